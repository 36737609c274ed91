import PyProof.Rows.All
import Wide.All
import OpenK.AllK
import Wide.FinOn
import Lean
import PyProof.EqAt
import PyProof.EqKinds
import PyProof.TupleCall
import PyProof.NeKinds
import KE.IntBitsLaws
import PyProof.StrWalks
import PyProof.FString5
import PyProof.ConsumeWalk
import PyProof.DictCompW
import PyProof.ZipIter
import PyProof.EnumMake
import PyProof.Rows.SetFrom
import KE.KRevSl
import PyProof.FitsBits
import PyProof.Rows.SortStr
import PyProof.StrBlockL
import PyProof.JoinWalk
import PyProof.AttrMissHeap
import PyProof.ListNew
import PyProof.DictUpdate
import PyProof.DictWalks
import KE.KSortTup
import PyProof.Rows.StrMeet
import KE.KSortKey
import PyProof.ListRange
import PyProof.SumAny
import PyProof.WalkInts
import PyProof.StationsW
import PyProof.RulesAs
import OpenK.KRaise
import PyProof.ExcInit
import PyProof.ExcBaseAll.ValueError
import PyProof.PassesOwn
import PyProof.NsDelKeeps
import PyProof.Rows.Catch
import PyProof.FString
import PyProof.Rows.FStr
import PyProof.ExcArgs
import PyProof.ExcAttrAll.ValueError
import PyProof.Rows.SortWalk
import PyProof.ReprRoads
import PyProof.ReprText
import PyProof.CallFns
import KE.KEqDict
import PyProof.AutoListH
import PyProof.SliceStr2
import PyProof.StrOps2
import PyProof.Rows.StrMadeLen
import PyProof.StrLawsIn
import PyProof.TupleKey
import PyProof.DictRoadsH
import PySem.Challenge.RW_newsways_k16_whole_counted_cut_up
open Array renaming length_toList → AJ, getElem?_eq_getElem → Cj, getElem?_toList → C1, getElem?_eq_none → DT, size_append → EQ
open Bool renaming false_ne_true → Ax, and_eq_true → Ay, eq_iff_iff → Bq, false_eq_true → BH, eq_false_iff → Db, not_eq_true' → DO, and_true → DV, and_false → Eu, true_and → EK, or_eq_true → Fu
open False renaming elim → Dc
open Function renaming comp → DZ
open Int renaming toNat_natCast → Bc, emod_lt_of_pos → BK, emod_nonneg → Ck, mul_le_mul_of_nonneg_left → CG, le_refl → CN, lt_of_mul_lt_mul_left → EW, le_trans → E_, mul_nonneg → FI
open List renaming length_map → Ab, mem_singleton → Ae, getElem?_map → Af, map_append → Ah, mem_append_right → Aj, mem_of_getElem? → Ak, mem_cons → Al, getElem?_eq_some_iff → An, getElem?_eq_getElem → Aq, mem_append → As, length_append → Au, size_toArray → Aw, map_cons → Az, length_take → A5, mem_map_of_mem → AC, mem_cons_self → AD, mem_cons_of_mem → AE, not_mem_nil → AF, take_of_length_le → AH, all_eq_true → AI, mem_map → AM, length_cons → AN, mem_of_mem_take → AO, length → Be, range → Bf, getD_eq_getElem?_getD → Bi, append_assoc → Bn, mem_append_left → Bu, length_drop → BB, any_eq_true → BC, replicate → BF, Nodup → BI, take_length → BL, countP_cons → BM, any_cons → BO, map_map → BP, pairwise_cons → BX, mem_flatMap → Ca, mem_of_mem_drop → Cb, sum_cons → Cf, append_nil → Ch, lookup_cons → Co, length_eq_zero_iff → Cu, countP_pos_iff → Cw, length_filter_le → C2, filter_append → C3, countP_singleton → C4, drop_eq_getElem_cons → C5, find?_cons → C9, length_range → CB, flatMap_cons → CC, map_take → CF, map_congr_left → CH, mem_range → CI, countP_append → CV, length_replicate → CW, take_append_drop → CY, range_succ → CZ, getElem?_append_right → C_, all_cons → Da, filter_cons → Dj, mem_filter → Dp, any_append → Dq, getElem_mem → Dv, length_eraseIdx → Dx, replicate_succ' → Dy, map_drop → D0, filterMap_cons → D3, flatMap_append → D4, countP_eq_zero → D5, nodup_cons → D7, pairwise_iff_getElem → D9, mem_of_find?_eq_some → DA, mem_filterMap → DC, map_nil → DG, getElem?_drop → DI, map_replicate → DK, find?_cons_of_neg → DU, getElem?_eq_none → Eb, eraseIdx_sublist → Ec, eraseIdx_eq_take_drop_succ → Ed, all_map → Ek, foldr_cons → Em, getElem_of_mem → Et, lt_irrefl → Ex, map_id → Ez, getElem?_take → E9, getElem?_append_left → ER, cons_append → EZ, getElem_map → Fe, flatMap_nil → Fh, of_mem_zip → Fn, forIn_cons → Fp, sum_append → Fq, find?_some → Fs, countP_map → Ft, getElem?_set_self → Fw, range_succ_eq_map → F2, drop_of_length_le → F4, length_pos_of_mem → F5, length_singleton → F7, forIn_nil → F9, getElem?_toArray → FD, drop_zero → FE, countP_le_length → FF, eq_nil_or_concat → FG, getElem?_set_ne → FL, pairwise_append → FQ, countP_flatMap → Gc, find?_eq_none → Gd
open List.Perm renaming refl → FH
open Nat renaming le_refl → Ag, ne_of_lt → Ar, lt_of_lt_of_le → AG, le_trans → AT, le_of_lt → AU, zero_le → Bo, lt_of_le_of_lt → BW, lt_succ_self → B_, lt_trans → Cd, ne_of_gt → C7, lt_irrefl → CD, le_succ → De, le_add_right → Dh, lt_succ_of_lt → Ds, min_eq_left → DB, pow_le_pow_right → En, pos_of_ne_zero → EA, min_eq_right → Ff, add_comm → Fg, add_le_add_left → F_
open Ne renaming symm → By
open Option renaming map_some → Ej, isSome → EJ, isSome_iff_exists → EX, getD_none → EY, some_ne_none → Gb
open Option.some renaming inj → AB
open PyProof.Rows renaming slot_tuple_getitem → BE, callWith_type1 → BS, callWith_builtin1 → Ef, subscriptTail_builtinR → Fx
open PySem renaming wpAny_bind → Aa, wpAny_pure → Ac, sizeLine → Av, wpAny_mono → AA, mainGlobals → AK, starEach → AL, wpAny_newObj_type → AR, wpAny_field → AS, wpAny_callSpecial?_slot → AW, wpAny_call_entry → AY, wpAny_seqItems → A_, foldedSetIterable → Bb, bootBuiltins → Bd, wpAny_holding → Bh, wpAny_standAt → Bm, wpAny_truthy_bool → Bs, Program → Bt, wpAny_setField_rec → Bx, letOwnedTupleGo → Bz, FuncData → BA, compareOp → BD, wpAny_setField → BG, wpAny_rule → BN, wpAny_updateSeq → BR, wpAny_Call_Name_kw → BU, cellsFrom → BV, plainId_quiet → Ce, wpAny_setState_of → Cg, codeAny_builtin → Ci, codeAny_mono → Cm, compStart → Cp, SetTable → Cr, wpAny_letGo → Cs, wpAny_tryCatch → Ct, Around → Cy, sysModules → C6, wpAny_comprehension_free → CA, wpAny_pyIter_tuple → CO, wpAny_typeOf → CP, wpAny_askSetting → Dk, mem_of_lookup → Dn, wpAny_pyIter_list → Dr, wpAny_isInstance → Dw, wpAny_attempt → Dz, wpAny_passesOwn → D6, codeAny_loop → DH, wpAny_pyIter_enum → DN, wpAny_of_eq → DQ, wpAny_noted → DR, wpAny_pyIter_zip → D_, wpAny_specialOf → Eh, wpAny_updateSeq_pair → El, wpAny_setEntries_of → Es, wpAny_onRaise → EG, wpAny_letOwnedTupleGo_enum → EH, wpAny_assign_Name → EM, wpAny_sequenceKey → EO, wpAny_letOwnedTupleGo_zip → ET, wpAny_execs_nil → Fm, codeAny_compStart_list → F0, wpAny_listPart → F8, wpAny_newTuple → FB
open PySem.Around renaming under_plainId → Bv, in1_units → Di
open PySem.Builtin.Builtins renaming bindParams → CQ
open PySem.Builtin.Int renaming intBits → Er
open PySem.Builtin.List renaming listSameRef → Cn, listLengthHint → CS, listExtendWith → CT, listTooLong → DF, listSubscript? → E3, listAllItems → ES
open PySem.Builtin.Slice renaming slicePlaces → Dd, sliceAdjust → D8, sliceApplied → EE
open PySem.Builtin.SmallTypes renaming nextOf → AV, ownedTupleIsFree → Br, ownedTupleHandOut → Cq
open PySem.Builtin.Str renaming strSliceIndices → AX
open PySem.Builtin.Tuple renaming tupleExact → Dg, tupleItemsOf → EF
open PySem.Calls renaming spliced_cons → DD, Name_function_global → ED, spliced_nil → EN, call_function_entry → EV, callWith_builtin → Fy, evalArgs_plain → FP
open PySem.F renaming slot_tuple_iterator_next → Bj, plainAttrs_list → BY, args_tuple_iterator_next_1 → Cv, entry_tuple_iterator_next → Cz, plain_max_loop → CJ, plain_min_loop → CK, slot_enumerate_next → CU, slot_list_append → Dl, type_list_append → Dm, plain_list_iadd → Do, slot_zip_next → Dt, args_tuple_add_2 → DE, entry_tuple_add → DM, slot_tuple_add → DP, slot_dict_get → Ea, args_enumerate_next_1 → Eo, typeCall_enumerate_1 → Ew, entry_enumerate_next → Ey, newCall_enumerate_1 → E5, entry_enumerate_new → E6, entry_proto_collect → E7, plain_proto_collect → E8, args_object_init_2 → EI, plain_extend_loop → EU, entry_max_loop → Fb, entry_min_loop → Fc, called_enumerate → Fd, args_dict_get_3 → Fi, args_zip_next_1 → Fj, entry_list_iadd → Fk, entry_dict_get → Fz, entry_zip_next → F3, slot_set_iter → FC, slot_list_pop → FJ, type_list_pop → FK
open PySem.Heap renaming get?_push_of_some → Ad, lt_size → Am, get?_push_size → Ao, get?_update_other → AQ, get?_update_self → Ba, size_push → Bk, SameBut → Bp, ExtBut → DS
open PySem.Heap.SameBut renaming update → AZ
open PySem.Manifest renaming signature? → Ga
open PySem.Obj renaming mapSeq → BZ, data_mapFields → DJ, mapFields → DW, isFreed_of_fields → FA
open PySem.Paired renaming length → EC
open PySem.PassesOwn renaming never → BJ
open PySem.SeqAt.EqAt renaming same → Eg, int_str → E1, str_int → E2, none_bool → FM, bool_none → FN, bool_bool → FO, none_int → FR, none_str → FT, bool_int → FU, bool_str → FV, int_none → FW, int_bool → FX, str_none → FY, str_bool → FZ
open PySem.SeqAt.RcAt renaming lists_lengths → Fa
open PySem.SetTable renaming grown → CL, below → Du
open PySem.Str renaming ofString → Cc
open PySem.Value renaming isStrOf_shape → Ep, isStrOf → EB
open PySem.W renaming Frag → Ai, kia_one → BQ, fnOf → C8, cellsFrom_some → CM, keepIn → Df, codeIn → DL, methodObj → EL, instObj → Fl, OpenLaw → Fo, binds_K → Fv, lookIn → F6
open PySem.W.KFB renaming if_not → E4
variable{s:PySem.Shared}{w:PySem.World}{A:PySem.Around}{E:PySem.Value→PySem.Shared→Prop}{K:Ai}{pins:List (PySem.Addr×PySem.Obj)}{prog:PySem.Program}{pos:PySem.Pos}{h:PySem.Heap}{a:PySem.Addr}{b:PySem.Addr}{i:Nat}{n:Nat}{us:List PySem.Value}{P:PySem.Program}{u:PySem.Value}{e:PySem.Expr}{scope:PySem.Scope}
open PySem PySem.Spec PyProof.Rows
set_option Elab.async false
set_option linter.all false
set_option maxRecDepth 100000
namespace L2
abbrev HD:=Sum Int Str
def KS:HD→Value→Bool
 | .inl k,v=>Value.isInt k v
 | .inr x,v=>EB x v
def Py(w:World):HD→Int
 | .inl k=>hashInt k
 | .inr x=>hashStr w x
theorem Kw:∀{k:HD}{v:Value},KS k v=true→(∃i t,k=Sum.inl i∧v=Value.int i t)∨(∃x t,k=Sum.inr x∧v=Value.str x t)
 | .inl i,v,h=>by obtain⟨t,e⟩:=Value.isInt_shape (k:=i) (v:=v) h;exact .inl ⟨i,t,rfl,e⟩
 | .inr x,v,h=>by obtain⟨t,e⟩:=Ep (x:=x) (v:=v) h;exact .inr ⟨x,t,rfl,e⟩
theorem VD(i:Int)(t:Tok):KS (.inl i) (.int i t)=true:=by simp[KS,Value.isInt]
theorem VE(x:Str)(t:Tok):KS (.inr x) (.str x t)=true:=by simp[KS,EB]
theorem Tk(a b:Int):decide ((Sum.inl a:HD)=Sum.inl b)=(a==b):=by
 by_cases e:a=b
 · subst e;simp
 · have h:¬(Sum.inl a:HD)=Sum.inl b:=λq=>e (Sum.inl.inj q);rw[decide_eq_false h];exact(beq_eq_false_iff_ne.mpr e).symm
theorem To(a b:Str):decide ((Sum.inr a:HD)=Sum.inr b)=decide (a=b):=by
 by_cases e:a=b
 · subst e;simp
 · have h:¬(Sum.inr a:HD)=Sum.inr b:=λq=>e (Sum.inr.inj q);rw[decide_eq_false h,decide_eq_false e]
theorem Tl(a:Int)(b:Str):decide ((Sum.inl a:HD)=Sum.inr b)=false:=decide_eq_false (λq=>nomatch q)
theorem Tn(a:Str)(b:Int):decide ((Sum.inr a:HD)=Sum.inl b)=false:=decide_eq_false (λq=>nomatch q)
def Ja(prog:Bt)(w:World):PySem.KeyKind prog w HD where
 is:=KS
 hash:=Py w
 inj:=λv a b ha hb=>by
  rcases Kw ha with⟨i,t,rfl,rfl⟩ | ⟨x,t,rfl,rfl⟩
  · rcases Kw hb with⟨j,u,rfl,e⟩ | ⟨y,u,rfl,e⟩
    · injection e with e1 _;rw[e1]
    · exact nomatch e
  · rcases Kw hb with⟨j,u,rfl,e⟩ | ⟨y,u,rfl,e⟩
    · exact nomatch e
    · injection e with e1 _;rw[e1]
 byValue:=λk v h=>by rcases Kw h with⟨i,t,rfl,rfl⟩ | ⟨x,t,rfl,rfl⟩<;>rfl
 pyHash:=λhv h=>by
  rcases Kw hv with⟨i,t,rfl,rfl⟩ | ⟨x,t,rfl,rfl⟩
  · exact wpAny_pyHash_int h
  · exact wpAny_pyHash_str h
 eqBool:=λhu hv h=>by
  rcases Kw hu with⟨i,t,rfl,rfl⟩ | ⟨x,t,rfl,rfl⟩
  · rcases Kw hv with⟨j,u,rfl,rfl⟩ | ⟨y,u,rfl,rfl⟩
    · rw[Tk] at h;exact wpAny_eqBool_int h
    · rw[Tl] at h;exact E1 i t y u _ _ _ _ h
  · rcases Kw hv with⟨j,u,rfl,rfl⟩ | ⟨y,u,rfl,rfl⟩
    · rw[Tn] at h;exact E2 x t j u _ _ _ _ h
    · rw[To] at h;exact wpAny_eqBool_str h
 «strs»:=λk x t v h=>by
  rcases Kw h with⟨i,u,rfl,e⟩ | ⟨y,u,rfl,e⟩
  · exact nomatch e
  · injection e with e1 _
    subst e1;cases v<;>rfl
theorem WE(prog:Bt)(w:World)(k:HD)(v:Value):(Ja prog w).is k v=KS k v:=rfl
theorem X8(prog:Bt)(w:World)(i:Int)(t:Tok):(Ja prog w).is (.inl i) (.int i t)=true:=VD i t
theorem X9(prog:Bt)(w:World)(x:Str)(t:Tok):(Ja prog w).is (.inr x) (.str x t)=true:=VE x t
inductive V where
 | non | bl (b:Bool) | int (i:Int) | str (x:Str) | byt (b:Array UInt8) | flt (b:UInt64) | ref (a:Addr) | ty (n:String)
 deriving DecidableEq
def RelV:V→Value→Prop
 | .non,u=>u=Value.none
 | .bl b,u=>u=Value.bool b
 | .int i,u=>∃t,u=Value.int i t
 | .str x,u=>∃t,u=Value.str x t
 | .byt b,u=>∃t,u=Value.bytes b t
 | .flt b,u=>∃t,u=Value.float b t
 | .ref a,u=>u=Value.ref a
 | .ty n,u=>u=Value.type n
abbrev Vals:List V→List Value→Prop:=Paired RelV
theorem Vals.length{xs:List V}(r:Vals xs us):xs.length=us.length:=EC r
theorem Vals.get:∀{xs:List V}{us:List Value}{i:Nat}{x:V},Vals xs us→xs[i]?=some x→∃u,us[i]?=some u∧RelV x u
 | _,_,_,_,.nil,e=>by simp at e
 | _,_,0,_,.cons r _,e=>by simp at e;subst e;exact⟨_,rfl,r⟩
 | _,_,i+1,x,.cons _ t,e=>by obtain⟨u,h1,h2⟩:=Vals.get (i:=i) (x:=x) t (by simpa using e);exact⟨u,by simpa using h1,h2⟩
theorem Vals.set{x:V}(r:RelV x u):∀{xs:List V}{us:List Value}(i:Nat),Vals xs us→Vals (xs.set i x) (us.set i u)
 | _,_,_,.nil=> .nil
 | _,_,0,.cons _ t=> .cons r t
 | _,_,i+1,.cons q t=> .cons q (Vals.set r i t)
theorem Vals.append:∀{xs ys:List V}{us ws:List Value},Vals xs us→Vals ys ws→Vals (xs++ys) (us++ws)
 | _,_,_,_,.nil,s=>s
 | _,_,_,_,.cons r t,s=> .cons r (Vals.append t s)
theorem Vals.take:∀{xs:List V}{us:List Value}(n:Nat),Vals xs us→Vals (xs.take n) (us.take n)
 | _,_,0,_=> .nil
 | _,_,_+1,.nil=> .nil
 | _,_,n+1,.cons r t=> .cons r (Vals.take n t)
theorem Vals.drop:∀{xs:List V}{us:List Value}(n:Nat),Vals xs us→Vals (xs.drop n) (us.drop n)
 | _,_,0,r=>r
 | _,_,_+1,.nil=> .nil
 | _,_,n+1,.cons _ t=>Vals.drop n t
def RelO:Option V→Option Value→Prop
 | some v,some u=>RelV v u
 | none,none=>True
 | _,_=>False
def KV{κ:Type}:List (κ×V)→List (κ×Value)→Prop:=Paired λ(p:κ×V)(q:κ×Value)=>p.1=q.1∧RelV p.2 q.2
def kV:HD→V
 | .inl i=> .int i
 | .inr x=> .str x
inductive HO where
 | lst (xs:List V)
 | tup (xs:List V)
 | dK (kvs:List (HD×V)) | dT (kvs:List (List HD×V))
 | set (S:Int→Bool) (n:Nat)
 | ins (C dx:Addr) (fs:List (Str×V))
 | own (x:Addr)
 | xd (fs:List (Str×V))
 | met (f x:Addr)
 | rng (lo hi:Int)
 | frz (o:Obj) (u:HO)
 | tbl (ps:Array Value)
 | ext (φ:Heap→Prop)
def IsTupP(h:Heap)(a:Addr)(items:Array Value):Prop:=∃o,h.get? a=some o∧o.cls= .type "tuple"∧o.dict=none∧∃n,o.data= .seq items n
theorem IsTupP.tup{items:Array Value}(x:IsTupP h a items):IsTup h a items:=let⟨o,h1,h2,_,h3⟩:=x;⟨o,h1,h2,h3⟩
theorem IsTupP.new(h:Heap)(items:Array Value):IsTupP (h.push {cls:= .type "tuple",data:= .seq items}) h.objs.size items:=⟨_,Ao _ rfl,rfl,rfl,_,rfl⟩
abbrev Hp:=Addr→Option HO
def Hh(H:Hp)(a:Addr)(o:HO):Hp:=λb=>if b=a then some o else H b
theorem Hl{H:Hp}{o:HO}:Hh H a o a=some o:=by unfold Hh;rw[if_pos rfl]
theorem HC{H:Hp}{o:HO}(h:b≠a):Hh H a o b=H b:=by unfold Hh;rw[if_neg h]
theorem JX{H:Hp}{o u:HO}(h:H a=some o)(h':H b=some u)(d:o≠u):a≠b:=by intro e;subst e;rw[h] at h';exact d (AB h')
theorem Jf{H:Hp}{o:HO}(h:H a=some o)(h':H b=none):a≠b:=by intro e;subst e;rw[h] at h';cases h'
section
variable(P:Bt)(w:World)
def ObjOk(H:Hp)(h:Heap)(a:Addr):HO→Prop
 | .lst xs=>xs.length≤Av∧∃(its:List Value)(n:Nat),Vals xs its∧h.get? a=some {cls:= .type "list",data:= .seq its.toArray n}
 | .tup xs=>xs.length≤Av∧∃its:List Value,Vals xs its∧IsTupP h a its.toArray
 | .dK kvs=>kvs.length≤Av∧(a==C6)=false∧∃vs,KV kvs vs∧h.DictOf (Ja P w) a vs
 | .dT kvs=>kvs.length≤Av∧(a==C6)=false∧∃xs:List (List HD×Addr×Value),
  Paired (λ(p:List HD×V)(q:List HD×Addr×Value)=>p.1=q.1∧H q.2.1=some (.tup (p.1.map kV))∧RelV p.2 q.2.2) kvs xs∧
  ∃o es ep,h.get? a=some o∧o.ExactDict∧o.data= .dict es ep∧es.toList=xs.map (entryOfKey (tupleKind (Ja P w)))∧(xs.map (·.1)).Nodup
 | .set S n=>h.SetOf (intKind P w) a S n
 | .ins C dx fs=>H dx=some (.own a)∧fs.length≤1000∧dx≠a∧h.get? a=some (Fl C dx)∧
  ∃mA,h.Ns1 dx mA∧(∀f,RelO (fs.lookup f) (mA f))∧PySem.Within mA (fs.map (·.1))
 | .own _=>∃o,h.get? a=some o
 | .xd fs=>∃mA,h.Ns1 a mA∧∀f,RelO (fs.lookup f) (mA f)
 | .rng lo hi=>∃t u v,h.get? a=some {cls:= .type "range",data:= .fields #[.int lo t,.int hi u,.int 1 v]}
 | .frz o u=>h.get? a=some o∧ObjOk H h a u
 | .tbl ps=>h.get? a=some {cls:= .none,data:= .fields ps}
 | .met f x=>h.get? a=some (EL (.ref f) (.ref x))
 | .ext φ=>φ h∧(∃o,h.get? a=some o)∧∀h1 h2:Heap,φ h1→(∀o,h1.get? a=some o→h2.get? a=some o)→φ h2
def HOk(H:Hp)(h:Heap):Prop:=∀a o,H a=some o→ObjOk P w H h a o
end
section
variable{H H':Hp}{h':Heap}{o:HO}
theorem ObjOk.lt(x:ObjOk P w H h a o):a<h.objs.size:=by
 cases o with
 | lst xs=>obtain⟨_,_,_,_,e⟩:=x;exact Am e
 | tup xs=>obtain⟨_,_,_,p⟩:=x;exact(show IsTupP _ _ _ from p).tup.lt
 | dK kvs=>obtain⟨_,_,_,_,o,_,_,e,_⟩:=x;exact Am e
 | dT kvs=>obtain⟨_,_,_,_,o,_,_,e,_⟩:=x;exact Am e
 | set S n=>obtain⟨o,_,_,_,e,_⟩:=x;exact Am e
 | ins C dx fs=>obtain⟨_,_,_,e,_⟩:=x;exact Am e
 | own y=>obtain⟨_,e⟩:=x;exact Am e
 | xd fs=>obtain⟨_,⟨_,_,_,e,_⟩,_⟩:=x;exact Am e
 | rng lo hi=>obtain⟨_,_,_,e⟩:=x;exact Am e
 | frz ob u=>obtain⟨e,_⟩:=x;exact Am e
 | tbl ps=>exact Am (show h.get? a=some _ from x)
 | met f y=>exact Am (show h.get? a=some _ from x)
 | ext φ=>obtain⟨_,⟨_,e⟩,_⟩:=x;exact Am e
theorem Paired.mapP{α β:Type}{F G:α→β→Prop}:∀{l₁:List α}{l₂:List β},Paired F l₁ l₂→(∀a b,F a b→G a b)→Paired G l₁ l₂
 | _,_,.nil,_=> .nil
 | _,_,.cons r t,f=> .cons (f _ _ r) (Paired.mapP t f)
theorem ObjOk.stay(x:ObjOk P w H h a o)(k:∀b u,(b=a∨H b=some (.own a))→h.get? b=some u→h'.get? b=some u)
 (ho:∀b,H b=some (.own a)→H' b=some (.own a)) (ht:∀b xs,H b=some (.tup xs)→H' b=some (.tup xs)):ObjOk P w H' h' a o:=by
 induction o with
 | lst xs=>obtain⟨z,its,n,r,e⟩:=x;exact⟨z,its,n,r,k _ _ (.inl rfl) e⟩
 | tup xs=>obtain⟨z,its,r,ob,e,c⟩:=x;exact⟨z,its,r,ob,k _ _ (.inl rfl) e,c⟩
 | dK kvs=>obtain⟨z,y,vs,r,ob,es,ep,e,c⟩:=x;exact⟨z,y,vs,r,ob,es,ep,k _ _ (.inl rfl) e,c⟩
 | dT kvs=> obtain⟨z,y,xs,r,ob,es,ep,e,c⟩:=x;exact⟨z,y,xs,Paired.mapP r λp q z=>⟨z.1,ht _ _ z.2.1,z.2.2⟩,ob,es,ep,k _ _ (.inl rfl) e,c⟩
 | set S n=>obtain⟨ob,es,ep,t,e,c⟩:=x;exact⟨ob,es,ep,t,k _ _ (.inl rfl) e,c⟩
 | ins C dx fs=> obtain⟨d,z,ne,e,mA,⟨od,es,ep,e2,c⟩,r⟩:=x;exact⟨ho _ d,z,ne,k _ _ (.inl rfl) e,mA,⟨od,es,ep,k _ _ (.inr d) e2,c⟩,r⟩
 | own y=>obtain⟨ob,e⟩:=x;exact⟨ob,k _ _ (.inl rfl) e⟩
 | xd fs=>obtain⟨mA,⟨od,es,ep,e,c⟩,r⟩:=x;exact⟨mA,⟨od,es,ep,k _ _ (.inl rfl) e,c⟩,r⟩
 | rng lo hi=>obtain⟨t,u,v,e⟩:=x;exact⟨t,u,v,k _ _ (.inl rfl) e⟩
 | frz ob u ih=>obtain⟨e,q⟩:=x;exact⟨k _ _ (.inl rfl) e,ih q⟩
 | tbl ps=> have e:h.get? a=some {cls:= .none,data:= .fields ps}:=x;show h'.get? a=some {cls:= .none,data:= .fields ps};exact k a _ (.inl rfl) e
 | met f y=> have e:h.get? a=some (EL (.ref f) (.ref y)):=x;show h'.get? a=some (EL (.ref f) (.ref y));exact k a _ (.inl rfl) e
 | ext φ=>obtain⟨p,⟨o,e⟩,st⟩:=x;exact⟨st _ _ p λo q=>k _ _ (.inl rfl) q,⟨o,k _ _ (.inl rfl) e⟩,st⟩
theorem HOk.lt(x:HOk P w H h)(e:H a=some o):a<h.objs.size:=(x a o e).lt
theorem HOk.fresh(x:HOk P w H h)(e:h.objs.size≤a):H a=none:=by
 cases q:H a with
 | none=>rfl
 | some u=>exact absurd (AG (x.lt q) e) (CD _)
theorem HOk.kept(x:HOk P w H h)(k:∀b u,h.get? b=some u→h'.get? b=some u):HOk P w H h':=λa o e=>
 (x a o e).stay (λb u _ q=>k b u q) (λ_ q=>q) λ_ _ q=>q
theorem HOk.laid(x:HOk P w H h)(k:∀b u,h.get? b=some u→h'.get? b=some u)(hp:h.objs.size≤a)(new:ObjOk P w (Hh H a o) h' a o):HOk P w (Hh H a o) h':=λb u e=>by
 have hn:=x.fresh hp;by_cases hb:b=a
 · subst hb;rw[Hl] at e;cases e;exact new
 · rw[HC hb] at e;exact(x b u e).stay (λc v _ q=>k c v q) (λc q=>by rw[HC (Jf q hn)];exact q) λc xs q=>by rw[HC (Jf q hn)];exact q
end
def Rd(H:Hp)(a:Addr)(u:HO):Prop:=H a=some u∨∃o,H a=some (.frz o u)
theorem Rd.ok{H:Hp}{u:HO}(r:Rd H a u)(x:HOk P w H h):ObjOk P w H h a u:=by
 rcases r with r | ⟨o,r⟩
 · exact x a u r
 · obtain⟨_,q⟩:=x a _ r;exact q
def MK:Option HO→Prop
 | some (.lst _)=>True
 | some (.dK _)=>True
 | some (.dT _)=>True
 | some (.set _ _)=>True
 | some (.ins _ _ _)=>True
 | some (.ext _)=>True
 | _=>False
section
variable{H:Hp}{h':Heap}{x e:Addr}{o':HO}
theorem HOk.write(ok:HOk P w H h)(mu:MK (H x))(he:e=x∨H e=some (.own x))(k:∀b u,b≠e→h.get? b=some u→h'.get? b=some u)(heo:∃u,h'.get? e=some u)
 (new:ObjOk P w (Hh H x o') h' x o'):HOk P w (Hh H x o') h':=λb u q=>by
 have nown:∀c y,H c=some (.own y)→c≠x:=λc y r z=>by subst z;rw[r] at mu;exact mu
 have ntup:∀c xs,H c=some (.tup xs)→c≠x:=λc xs r z=>by subst z;rw[r] at mu;exact mu
 by_cases hb:b=x
 · subst hb;rw[Hl] at q;cases q;exact new
 · rw[HC hb] at q;by_cases hbe:b=e
   · have q':H b=some (.own x):=by
      rcases he with z | z
      · exact absurd (hbe.trans z) hb
      · rw[hbe];exact z
     rw[q] at q';cases q';obtain⟨v,hv⟩:=heo;exact⟨v,by rw[hbe];exact hv⟩
   · refine(ok b u q).stay (λc v hc r=>k c v ?_ r) (λc r=>by rw[HC (nown c b r)];exact r) λc xs r=>by rw[HC (ntup c xs r)];exact r
     rcases hc with rfl | hc
     · exact hbe
     · rintro rfl;rcases he with z | z
       · exact nown c b hc z
       · rw[hc] at z;cases z;exact hb rfl
end
structure Un(fs ex:List Addr)(H H':Hp)(h h':Heap):Prop where
 keep:∀b o,h.get? b=some o→H b=none→b ∉ fs→b ∉ ex→h'.get? b=some o
 slot:∀b o,h.get? b=some o→H b=none→b∈fs→b ∉ ex→∃sl,h'.get? b=some {o with slots:=sl}
 free:∀b o,h.get? b=some o→H b=none→b ∉ ex→H' b=none
 there:∀b o,h.get? b=some o→b ∉ ex→∃o',h'.get? b=some o'
 tups:∀b xs,H b=some (.tup xs)→H' b=some (.tup xs)
 frzs:∀b o u,H b=some (.frz o u)→H' b=some (.frz o u)
 tbls:∀b ps,H b=some (.tbl ps)→∃more,H' b=some (.tbl (ps++more))
section
variable{fs fs' ex ex':List Addr}{H H1 H2:Hp}{h1 h2 h':Heap}{x e:Addr}{o:HO}
theorem Un.any(u:Un fs ex H H1 h h1){ob:Obj}(q:h.get? b=some ob)(n:H b=none)(hx:b ∉ ex):∃sl,h1.get? b=some {ob with slots:=sl}:=by
 by_cases hb:b∈fs
 · exact u.slot b ob q n hb hx
 · exact⟨ob.slots,u.keep b ob q n hb hx⟩
theorem Un.kept(k:∀b u,h.get? b=some u→h'.get? b=some u):Un fs ex H H h h':=
 ⟨λb ob q _ _ _=>k b ob q,λb ob q _ _ _=>⟨ob.slots,k b ob q⟩,λ_ _ _ n _=>n,λb ob q _=>⟨ob,k b ob q⟩,λ_ _ q=>q,λ_ _ _ q=>q,λ_ ps q=>⟨#[],by rw[q];simp⟩⟩
theorem Un.refl:Un fs ex H H h h:=Un.kept λ_ _ q=>q
theorem Un.laid(k:∀b u,h.get? b=some u→h'.get? b=some u)(hp:h.objs.size≤a)(hn:H a=none):Un fs ex H (Hh H a o) h h' where
 keep:=λb u q _ _ _=>k b u q
 slot:=λb u q _ _ _=>⟨u.slots,k b u q⟩
 free:=λb u q n _=>by rw[HC (Ar (AG (Am q) hp))];exact n
 there:=λb u q _=>⟨u,k b u q⟩
 tups:=λb xs q=>by rw[HC (Jf q hn)];exact q
 frzs:=λb u xs q=>by rw[HC (Jf q hn)];exact q
 tbls:=λb ps q=>⟨#[],by rw[HC (Jf q hn),q];simp⟩
theorem Un.write(mu:MK (H x))(he:e=x∨H e=some (.own x))(k:∀b u,b≠e→h.get? b=some u→h'.get? b=some u)(heo:∃u,h'.get? e=some u):Un fs ex H (Hh H x o) h h':=by
 have hx:∀b,H b=none→b≠x:=λb n z=>by subst z;rw[n] at mu;exact mu
 have hb:∀b,H b=none→b≠e:=λb n z=>by
  subst z;rcases he with r | r
  · exact hx b n r
  · rw[n] at r;cases r
 have hm:∀b u,H b=some u→¬MK (some u)→b≠x:=λb u q nm z=>by subst z;rw[q] at mu;exact nm mu
 refine⟨λb u q n _ _=>k b u (hb b n) q,λb u q n _ _=>⟨u.slots,k b u (hb b n) q⟩,λb u q n _=>by rw[HC (hx b n)];exact n,λb u q _=>?_,
  λb xs q=>by rw[HC (hm b _ q λz=>z)];exact q,λb u xs q=>by rw[HC (hm b _ q λz=>z)];exact q,λb ps q=>⟨#[],by rw[HC (hm b _ q λz=>z),q];simp⟩⟩
 by_cases hbe:b=e
 · subst hbe;exact heo
 · exact⟨u,k b u hbe q⟩
end
def trk(h:Heap)(H:Hp):List Addr:=(Bf h.objs.size).filter λa=>(H a).isSome
def Jb(h:Heap)(H:Hp):Heap:=PySem.W.hideAll h (trk h H)
theorem V5(h:Heap)(H:Hp):(Jb h H).objs.size=h.objs.size:=PySem.W.hideAll_size _ _
theorem Vc{H:Hp}{o:Obj}(e:h.get? b=some o)(n:H b=none):(Jb h H).get? b=some o:=
 PySem.W.hideAll_get _ e λhm=>by have q:(H b).isSome=true:=(Dp.mp hm).2;rw[n] at q;simp at q
theorem Ug{H:Hp}{o:Obj}(e:(Jb h H).get? b=some o):h.get? b=some o∧H b=none:=by
 have e':h.get? b=some o:=PySem.W.of_hideAll (trk h H) e;refine⟨e',?_⟩;cases q:H b with
 | none=>rfl
 | some x=> have hm:b∈trk h H:=Dp.mpr ⟨CI.mpr (Am e'),by simp[q]⟩;have z:(Jb h H).get? b=none:=PySem.W.hideAll_none (trk h H) hm;rw[z] at e;cases e
def U9(g h:Heap)(L:Addr):List (Addr×Obj):=(Bf h.objs.size).filterMap λa=>if a=L∨(g.get? a).isSome=true then none else(h.get? a).map λo=>(a,o)
def Ii(g h:Heap)(L d:Addr):List (Addr×Obj):=(U9 g h L).filter λp=>decide (p.1≠d)
structure Mod(K:Ai)(mg:Str→Option Value)(base:Heap):Prop where
 kin:K.In base
 glob:base.Ns AK mg
 blt:∃mb,base.Ns builtinsNs mb∧∀x:Str,x≠"__name__"→mb x=Bd x
 nolimit:base.NoLimit
structure Cx where
 prog:Bt
 w:World
 K:Ai
 mg:Str→Option Value
 base:Heap
 A:Cy
 N:List Str
 s₀:Shared
 H₀:Hp
 env:Env
 outer:List Env
 stack:List Env
 ex:List Addr
 fn:Str→Bool
 calm:Bool
 pn:List (Addr×Obj)
 xe:Value→Shared→Prop
def JQ(l:List Env):List Addr:=l.filterMap (·.frame)
abbrev Cx.fs(X:Cx):List Addr:=JQ X.outer
def MG(sc:Scope)(x:Str):Prop:=sc.names.lookup x=some .local∨sc.names.lookup x=some .cell∨sc.names.lookup x=some .free
def Ly(sc:Scope)(x:Str):Prop:=sc.names.lookup x=some .local∨sc.names.lookup x=some .cell
def PM(env:Env)(h:Heap)(m:Str→Option Value)(x:Str)(u:Value):Prop:=
 (env.kindOf x=some .local∧m x=some u)∨((env.kindOf x=some .cell∨env.kindOf x=some .free)∧∃c,env.cells.lookup x=some c∧h.IsCell c (some u))
structure Cx.Ok(X:Cx):Prop where
 mod:Mod X.K X.mg X.base
 kind:X.env.scope.kind= .function
 glob:X.env.globals=AK
 blt:X.env.builtins=builtinsNs
 above:X.s₀.heap.objs.size≤X.env.locals
 inj:∀x y c,X.env.cells.lookup x=some c→X.env.cells.lookup y=some c→x=y
 has:∀x,(X.env.kindOf x=some .cell∨X.env.kindOf x=some .free)→∃c,X.env.cells.lookup x=some c
 cab:∀x c,X.fn x=true→X.env.cells.lookup x=some c→X.s₀.heap.objs.size≤c
 hd:X.calm=true→X.A.handled=none
 frames:X.A.frames=some X.stack
 stk:X.stack=X.outer∨(X.stack=X.env::X.outer∧X.env.frame=some X.env.locals)
 exf:∀b∈X.ex,b≠X.env.locals∧∀x c,X.env.cells.lookup x=some c→c≠b
 bs:∀b o,X.base.get? b=some o→X.s₀.heap.get? b=some o∧X.H₀ b=none
 bsz:X.base.objs.size≤X.s₀.heap.objs.size
 noex:∀b o,X.base.get? b=some o→b ∉ X.ex
 exfs:∀b∈X.ex,b ∉ X.fs
 funs:X.s₀.heap.FunFrames X.base X.outer
 frf:∀b∈X.fs,X.H₀ b=none
structure Inv(X:Cx)(pins:List (Addr×Obj))(σ:List (Option V))(H:Hp)(s:Shared):Prop where
 ok:X.Ok
 os:s.os=X.s₀.os
 bare:AllBare s.gens
 base:Un X.fs X.ex X.H₀ H X.s₀.heap s.heap
 loc:∃m,s.heap.Ns X.env.locals m∧∀(i:Nat)(x:Str)(v:V),X.N[i]?=some x→σ[i]?=some (some v)→MG X.env.scope x→∃u,RelV v u∧PM X.env s.heap m x u
 cell:∀x c,X.env.cells.lookup x=some c→∃v,s.heap.IsCell c v
 free:H X.env.locals=none
 freeC:∀x c,X.env.cells.lookup x=some c→H c=none
 pin:∀p∈X.pn++pins,s.heap.get? p.1=some p.2∧H p.1=none∧p.1≠X.env.locals∧p.1 ∉ X.fs∧∀v,p.2.data≠ .cell v
 hok:HOk X.prog X.w H s.heap
 len:σ.length=X.N.length
section
variable{X:Cx}{σ:List (Option V)}{H H':Hp}{h':Heap}
theorem Cx.Ok.nofr(ok:X.Ok){o:Obj}(e:X.base.get? b=some o):b ∉ X.fs:=λhb=>by have:=(ok.funs.mem hb).1;rw[e] at this;cases this
theorem Inv.bs(I:Inv X pins σ H s):∀b o,X.base.get? b=some o→s.heap.get? b=some o∧H b=none:=λb o e=>
 ⟨I.base.keep b o (I.ok.bs b o e).1 (I.ok.bs b o e).2 (I.ok.nofr e) (I.ok.noex b o e),I.base.free b o (I.ok.bs b o e).1 (I.ok.bs b o e).2 (I.ok.noex b o e)⟩
theorem Inv.bk(I:Inv X pins σ H s):∀b o,X.base.get? b=some o→s.heap.get? b=some o:=λb o e=>(I.bs b o e).1
theorem Inv.mod(I:Inv X pins σ H s):Mod X.K X.mg X.base:=I.ok.mod
theorem Inv.kIn(I:Inv X pins σ H s):X.K.In s.heap:=I.ok.mod.kin.keeps I.bk
theorem Inv.lt(I:Inv X pins σ H s):X.env.locals<s.heap.objs.size:=let⟨_,hn,_⟩:=I.loc;hn.lt
theorem Inv.sz(I:Inv X pins σ H s):X.s₀.heap.objs.size≤s.heap.objs.size:=AT I.ok.above (AU I.lt)
theorem Inv.nofs(I:Inv X pins σ H s)(h:s.heap.objs.size≤a):a ∉ X.fs:=λhb=>by obtain⟨_,o,ho,_⟩:=I.ok.funs.mem hb;exact absurd (AG (Am ho) (AT I.sz h)) (CD _)
theorem Inv.cne(I:Inv X pins σ H s):∀x c,X.env.cells.lookup x=some c→c≠X.env.locals:=λx c e z=>by obtain⟨v,o,ho,hd⟩:=I.cell x c e;obtain⟨m,⟨o',es,ep,ho',hd',_⟩,_⟩:=I.loc;rw[z,ho'] at ho;cases ho;rw[hd'] at hd;cases hd
theorem Inv.funs(I:Inv X pins σ H s):s.heap.FunFrames X.base X.outer:=by
 have all:∀(l:List Env),(∀b∈JQ l,b∈X.fs)→X.s₀.heap.FunFrames X.base l→s.heap.FunFrames X.base l:=by
  intro l
  induction l with
  | nil=>intro _ _;trivial
  | cons env r ih=> intro hs hl;obtain⟨hk,⟨L,o,hf,hn,ho,hd⟩,hr⟩:=hl;have hL:L∈X.fs:=hs L (by unfold JQ;rw[D3,hf];exact AD);obtain⟨sl,e⟩:=I.base.slot L o ho (I.ok.frf L hL) hL λz=>I.ok.exfs L z hL;exact⟨hk,⟨L,_,hf,hn,e,hd⟩,ih (λb hb=>hs b (by unfold JQ;rw[D3,hf];exact AE _ hb)) hr⟩
 exact all X.outer (λ_ hb=>hb) I.ok.funs
theorem Inv.stack(I:Inv X pins σ H s):s.heap.FunFrames X.base X.stack:=by
 rcases I.ok.stk with e | ⟨e,hf⟩
 · rw[e];exact I.funs
 · rw[e];obtain⟨m,hn,_⟩:=I.loc;refine .cons (by rw[I.ok.kind];decide) hf hn ?_ I.funs;exact Heap.get?_none_of_le (AT I.ok.bsz I.ok.above)
theorem Inv.stkSub(I:Inv X pins σ H s):∀b∈JQ X.stack,b∈X.env.locals::X.fs:=λb hb=>by
 rcases I.ok.stk with e | ⟨e,hf⟩
 · rw[e] at hb;exact AE _ hb
 · rw[e] at hb;unfold JQ at hb;rw[D3,hf] at hb;exact hb
theorem Inv.stkFree(I:Inv X pins σ H s):∀b∈JQ X.stack,H b=none:=λb hb=>by
 rcases Al.mp (I.stkSub b hb) with e | hb
 · rw[e];exact I.free
 · obtain⟨_,o,ho,_⟩:=I.ok.funs.mem hb;exact I.base.free b o ho (I.ok.frf b hb) λz=>I.ok.exfs b z hb
theorem Inv.step{g':Array GenState}{t':Nat}{d':Drawn}{ch:List Addr}(I:Inv X pins σ H s)
 (hch:∀b∈ch,(b∈X.ex∨X.s₀.heap.objs.size≤b)∧b≠X.env.locals∧(∀x c,X.env.cells.lookup x=some c→c≠b)∧∀p∈X.pn++pins,p.1≠b)
 (keep:∀b o,b≠X.env.locals→b ∉ X.fs→b ∉ ch→s.heap.get? b=some o→H b=none→h'.get? b=some o)
 (slot:∀b o,b≠X.env.locals→b∈X.fs→b ∉ ch→s.heap.get? b=some o→H b=none→∃sl,h'.get? b=some {o with slots:=sl}) (free:∀b o,b ∉ ch→s.heap.get? b=some o→H b=none→H' b=none)
 (there:∀b o,b ∉ ch→s.heap.get? b=some o→∃o',h'.get? b=some o')
 (tups:∀b xs,H b=some (.tup xs)→H' b=some (.tup xs)) (frzs:∀b o u,H b=some (.frz o u)→H' b=some (.frz o u)) (tbls:∀b ps,H b=some (.tbl ps)→∃more,H' b=some (.tbl (ps++more)))
 (ns:∀m,s.heap.Ns X.env.locals m→h'.Ns X.env.locals m) (hok:HOk X.prog X.w H' h') (hg:AllBare g'):
 Inv X pins σ H' {s with heap:=h',gens:=g',drawn:=d',toks:=t'}:=by
 have neL:∀b o,X.s₀.heap.get? b=some o→b≠X.env.locals:=λb o e=>Ar (AG (Am e) I.ok.above);have neC:∀b o,X.s₀.heap.get? b=some o→b ∉ X.ex→b ∉ ch:=λb o e hx hb=>by
  rcases(hch b hb).1 with z | z
  · exact hx z
  · exact absurd (AG (Am e) z) (CD _)
 have cellK:∀x c,X.env.cells.lookup x=some c→∀v,s.heap.IsCell c v→h'.IsCell c v:=λx c e v ⟨o,ho,hd⟩=>by
  have nch:c ∉ ch:=λz=>(hch c z).2.2.1 x c e rfl;by_cases hc:c∈X.fs
  · obtain⟨sl,q⟩:=slot c o (I.cne x c e) hc nch ho (I.freeC x c e);exact⟨_,q,hd⟩
  · exact⟨o,keep c o (I.cne x c e) hc nch ho (I.freeC x c e),hd⟩
 refine⟨I.ok,I.os,hg,⟨λb o e n hb hx=>?_,λb o e n hb hx=>?_,λb o e n hx=>?_,λb o e hx=>?_,λb xs e=>tups b xs (I.base.tups b xs e),λb o xs e=>frzs b o xs (I.base.frzs b o xs e),λb ps e=>?_⟩,?_,λx c e=>?_,?_,λx c e=>?_,λp hp=>?_,hok,I.len⟩
 · exact keep b o (neL b o e) hb (neC b o e hx) (I.base.keep b o e n hb hx) (I.base.free b o e n hx)
 · obtain⟨sl,e1⟩:=I.base.slot b o e n hb hx;obtain⟨sl',e2⟩:=slot b _ (neL b o e) hb (neC b o e hx) e1 (I.base.free b o e n hx);exact⟨sl',e2⟩
 · obtain⟨o',e1⟩:=I.base.there b o e hx;exact free b o' (neC b o e hx) e1 (I.base.free b o e n hx)
 · obtain⟨o',e1⟩:=I.base.there b o e hx;exact there b o' (neC b o e hx) e1
 · obtain⟨m1,e1⟩:=I.base.tbls b ps e;obtain⟨m2,e2⟩:=tbls b _ e1;exact⟨m1++m2,by rw[e2,Array.append_assoc]⟩
 · obtain⟨m,hn,hl⟩:=I.loc;refine⟨m,ns m hn,λi x v e1 e2 e3=>?_⟩;obtain⟨u,r,l⟩:=hl i x v e1 e2 e3;refine⟨u,r,?_⟩;rcases l with l | ⟨k,c,e,z⟩
   · exact .inl l
   · exact .inr ⟨k,c,e,cellK x c e _ z⟩
 · obtain⟨v,z⟩:=I.cell x c e;exact⟨v,cellK x c e v z⟩
 · obtain⟨m,⟨o,_,_,ho,_⟩,_⟩:=I.loc;exact free _ o (λz=>(hch _ z).2.1 rfl) ho I.free
 · obtain⟨v,o,ho,hd⟩:=I.cell x c e;exact free c o (λz=>(hch c z).2.2.1 x c e rfl) ho (I.freeC x c e)
 · obtain⟨e,n,ne,nf,d⟩:=I.pin p hp;have nch:p.1 ∉ ch:=λz=>(hch p.1 z).2.2.2 p hp rfl;exact⟨keep p.1 p.2 ne nf nch e n,free p.1 p.2 nch e n,ne,nf,d⟩
theorem Inv.un{t':Nat}(I:Inv X pins σ H s)(u:Un X.fs [] H H' s.heap h')(hok:HOk X.prog X.w H' h'):Inv X pins σ H' {s with heap:=h',toks:=t'}:=by obtain⟨m,⟨o,es,ep,ho,r⟩,_⟩:=id I.loc;obtain⟨sl,hL⟩:=u.any ho I.free (by simp);exact I.step (g':=s.gens) (d':=s.drawn) (ch:=[]) (λ_ z=>nomatch z) (λb o _ hb _ e n=>u.keep b o e n hb (by simp)) (λb o _ hb _ e n=>u.slot b o e n hb (by simp)) (λb o _ e n=>u.free b o e n (by simp)) (λb o _ e=>u.there b o e (by simp)) u.tups u.frzs u.tbls (λm' hm=>by obtain⟨o',es',ep',ho',r'⟩:=hm;rw[ho] at ho';cases ho';exact⟨_,es',ep',hL,r'⟩) hok I.bare
theorem Inv.call{g':Array GenState}{t':Nat}{d':Drawn}{ch:List Addr}(I:Inv X pins σ H s)(u:Un (JQ X.stack) ch H H' s.heap h')(hok:HOk X.prog X.w H' h')(hg:AllBare g')
 (hch:∀b∈ch,(b∈X.ex∨X.s₀.heap.objs.size≤b)∧b≠X.env.locals∧(∀x c,X.env.cells.lookup x=some c→c≠b)∧∀p∈X.pn++pins,p.1≠b):
 Inv X pins σ H' {s with heap:=h',gens:=g',drawn:=d',toks:=t'}:=by
 obtain⟨m,⟨o,es,ep,ho,r⟩,_⟩:=id I.loc;obtain⟨sl,hL⟩:=u.any ho I.free λz=>(hch _ z).2.1 rfl;exact I.step (ch:=ch) hch (λb o hL hb hc e n=>u.keep b o e n (λz=>(Al.mp (I.stkSub b z)).elim hL hb) hc) (λb o _ _ hc e n=>u.any e n hc) (λb o hc e n=>u.free b o e n hc) (λb o hc e=>u.there b o e hc) u.tups u.frzs u.tbls (λm' hm=>by obtain⟨o',es',ep',ho',r'⟩:=hm;rw[ho] at ho';cases ho';exact⟨_,es',ep',hL,r'⟩) hok hg
theorem Inv.turned{t':Nat}{it:Addr}(I:Inv X pins σ H s)(k:∀b o,b≠it→s.heap.get? b=some o→h'.get? b=some o)(hn:H it=none)(hL:it≠X.env.locals)
 (h1:it∈X.ex∨X.s₀.heap.objs.size≤it) (h2:∀x c,X.env.cells.lookup x=some c→c≠it) (h3:∀p∈X.pn++pins,p.1≠it):Inv X pins σ H {s with heap:=h',toks:=t'}:=by
 have nit:∀b u,H b=some u→b≠it:=λb u e z=>by rw[z,hn] at e;cases e
 refine I.step (g':=s.gens) (d':=s.drawn) (ch:=[it]) (λb hb=>?_) (λb o _ _ hc e _=>k b o (λz=>hc (by simp[z])) e) (λb o _ _ hc e _=>⟨o.slots,k b o (λz=>hc (by simp[z])) e⟩) (λ_ _ _ _ n=>n)
  (λb o hc e=>⟨o,k b o (λz=>hc (by simp[z])) e⟩) (λ_ _ e=>e) (λ_ _ _ e=>e) (λb ps e=>⟨#[],by rw[e];simp⟩) (λm hm=>?_) (λb u e=>?_) I.bare
 · have e:b=it:=by simpa using hb
   subst e;exact⟨h1,hL,h2,h3⟩
 · obtain⟨o,es,ep,ho,r⟩:=hm;exact⟨o,es,ep,k _ o (By hL) ho,r⟩
 · refine(I.hok b u e).stay (λc v hc q=>k c v ?_ q) (λ_ q=>q) λ_ _ q=>q;rcases hc with z | z
   · rw[z];exact nit b u e
   · exact nit c _ z
theorem Inv.tok(I:Inv X pins σ H s)(t:Nat):Inv X pins σ H {s with toks:=t}:=I.un (h':=s.heap) (t':=t) Un.refl I.hok
theorem Inv.kept{t':Nat}(I:Inv X pins σ H s)(k:∀b u,s.heap.get? b=some u→h'.get? b=some u):Inv X pins σ H {s with heap:=h',toks:=t'}:=I.un (Un.kept k) (I.hok.kept k)
theorem Inv.laid{o:HO}{t':Nat}(I:Inv X pins σ H s)(k:∀b u,s.heap.get? b=some u→h'.get? b=some u)(hp:s.heap.objs.size≤a)(new:ObjOk X.prog X.w (Hh H a o) h' a o):
 Inv X pins σ (Hh H a o) {s with heap:=h',toks:=t'}:=I.un (Un.laid k hp (I.hok.fresh hp)) (I.hok.laid k hp new)
theorem Inv.write{x e:Addr}{o:HO}{t':Nat}(I:Inv X pins σ H s)(mu:MK (H x))(he:e=x∨H e=some (.own x))(k:∀b u,b≠e→s.heap.get? b=some u→h'.get? b=some u)(heo:∃u,h'.get? e=some u)
 (new:ObjOk X.prog X.w (Hh H x o) h' x o):Inv X pins σ (Hh H x o) {s with heap:=h',toks:=t'}:=I.un (Un.write mu he k heo) (I.hok.write mu he k heo new)
theorem Inv.pins_of{pins':List (Addr×Obj)}(I:Inv X pins σ H s)(h:∀p∈pins',s.heap.get? p.1=some p.2∧H p.1=none∧p.1≠X.env.locals∧p.1 ∉ X.fs∧∀v,p.2.data≠ .cell v):Inv X pins' σ H s:=
 ⟨I.ok,I.os,I.bare,I.base,I.loc,I.cell,I.free,I.freeC,λp hp=>(As.mp hp).elim (λz=>I.pin p (Bu _ z)) (h p),I.hok,I.len⟩
theorem Ru{N:List Str}(hN:N.Nodup){j:Nat}{x:Str}(a:N[i]?=some x)(b:N[j]?=some x):i=j:=by obtain⟨h1,e1⟩:=An.mp a;obtain⟨h2,e2⟩:=An.mp b;exact(List.getElem_inj hN).mp (e1.trans e2.symm)
theorem OG{M:Model}{A:Cy}{E:Value→Shared→Prop}{x:Str}{v:V}{Q:Unit→Shared→Prop}(I:Inv X pins σ H s)(hN:X.N.Nodup)(hi:X.N[i]?=some x)(hx:Ly X.env.scope x)(r:RelV v u)
 (h:∀s',Inv X pins (σ.set i (some v)) H s'→(∃a,Bp a s.heap s'.heap∧(a=X.env.locals∨X.env.cells.lookup x=some a))→Q () s') (hf:X.fn x=true∨X.env.scope.names.lookup x=some .local:=by first | exact .inl rfl | exact .inr rfl | assumption):wpAny M A (storeName X.env x u) Q E s:=by
 obtain⟨m,hn,hl⟩:=id I.loc;have hcls:(X.env.scope.kind== .class || (X.env.scope.kind== .module && X.env.locals !=X.env.globals))=false:=by rw[I.ok.kind];rfl
 have hiσ:i<σ.length:=by rw[I.len];exact(An.mp hi).1
 have cne:=I.cne;have tracked:∀{a:Addr}{h':Heap},(∃o,s.heap.get? a=some o∧H a=none)→Bp a s.heap h'→HOk X.prog X.w H h':=λ{a h'}ha hs b ob e=>by
  obtain⟨_,_,hfree⟩:=ha;refine(I.hok b ob e).stay (λc w' hc q=>(hs.2 c ?_).trans q) (λ_ q=>q) λ_ _ q=>q;rintro rfl;rcases hc with rfl | hc
  · rw[hfree] at e;cases e
  · rw[hfree] at hc;cases hc
 rcases hx with hk | hk
 · refine wpAny_storeName_local hk hn (λh' hn' hs=>?_) hcls;obtain⟨oL,_,_,hoL,_⟩:=id hn;refine h _ ⟨I.ok,I.os,I.bare,⟨λb o e n hb hx=>?_,λb o e n hb hx=>?_,I.base.free,λb o e hx=>?_,I.base.tups,I.base.frzs,I.base.tbls⟩,⟨_,hn',λj y v' e1 e2 e3=>?_⟩,λy c e=>?_,I.free,I.freeC,λp hp=>?_,tracked ⟨oL,hoL,I.free⟩ hs,by simpa using I.len⟩ ⟨_,hs,.inl rfl⟩
   · exact(hs.2 b (Ar (AG (Am e) I.ok.above))).trans (I.base.keep b o e n hb hx)
   · obtain⟨sl,e1⟩:=I.base.slot b o e n hb hx;exact⟨sl,(hs.2 b (Ar (AG (Am e) I.ok.above))).trans e1⟩
   · obtain⟨o',e1⟩:=I.base.there b o e hx;exact⟨o',(hs.2 b (Ar (AG (Am e) I.ok.above))).trans e1⟩
   · by_cases hj:j=i
     · subst hj;rw[hi] at e1;cases e1;rw[Fw hiσ] at e2;cases e2;exact⟨u,r,.inl ⟨hk,by simp⟩⟩
     · rw[FL (By hj)] at e2;obtain⟨u',r',q⟩:=hl j y v' e1 e2 e3;refine⟨u',r',?_⟩;rcases q with⟨k,e⟩ | ⟨k,c,e,z⟩
       · refine .inl ⟨k,?_⟩;have:y≠x:=λe=>hj (Ru hN e1 (e ▸ hi));simp[this,e]
       · exact .inr ⟨k,c,e,z.sameBut hs (cne y c e)⟩
   · obtain⟨w',z⟩:=I.cell y c e;exact⟨w',z.sameBut hs (cne y c e)⟩
   · obtain⟨e,n,ne,nf,d⟩:=I.pin p hp;exact⟨(hs.2 p.1 ne).trans e,n,ne,nf,d⟩
 · have hfn:X.fn x=true:=by
    rcases hf with z | z
    · exact z
    · rw[z] at hk;cases hk
   obtain⟨c,hc⟩:=I.ok.has x (.inl hk);obtain⟨w',z⟩:=I.cell x c hc;refine wpAny_storeName_cell I.ok.kind hk hc z (λh' hc' hs=>?_);obtain⟨oc,hoc,hocd⟩:=id z;refine h {s with heap:=h'} ⟨I.ok,I.os,I.bare,⟨λb o e n hb hx=>?_,λb o e n hb hx=>?_,I.base.free,λb o e hx=>?_,I.base.tups,I.base.frzs,I.base.tbls⟩,⟨m,hn.sameBut hs (By (cne x c hc)),λj y v' e1 e2 e3=>?_⟩,λy c' e=>?_,I.free,I.freeC,λp hp=>?_,tracked ⟨oc,hoc,I.freeC x c hc⟩ hs,by simpa using I.len⟩ ⟨c,hs,.inr hc⟩
   · exact(hs.2 b (Ar (AG (Am e) (I.ok.cab x c hfn hc)))).trans (I.base.keep b o e n hb hx)
   · obtain⟨sl,e1⟩:=I.base.slot b o e n hb hx;exact⟨sl,(hs.2 b (Ar (AG (Am e) (I.ok.cab x c hfn hc)))).trans e1⟩
   · obtain⟨o',e1⟩:=I.base.there b o e hx;exact⟨o',(hs.2 b (Ar (AG (Am e) (I.ok.cab x c hfn hc)))).trans e1⟩
   · by_cases hj:j=i
     · subst hj;rw[hi] at e1;cases e1;rw[Fw hiσ] at e2;cases e2;exact⟨u,r,.inr ⟨.inl hk,c,hc,hc'⟩⟩
     · rw[FL (By hj)] at e2;obtain⟨u',r',q⟩:=hl j y v' e1 e2 e3;refine⟨u',r',?_⟩;rcases q with q | ⟨k,c',e,z'⟩
       · exact .inl q
       · refine .inr ⟨k,c',e,z'.sameBut hs ?_⟩;rintro rfl;exact hj (Ru hN e1 (I.ok.inj _ _ _ e hc ▸ hi))
   · by_cases hcc:c'=c
     · subst hcc;exact⟨_,hc'⟩
     · obtain⟨w2,z2⟩:=I.cell y c' e;exact⟨w2,z2.sameBut hs hcc⟩
   · obtain⟨e,n,ne,nf,d⟩:=I.pin p hp;refine⟨(hs.2 p.1 ?_).trans e,n,ne,nf,d⟩;intro q;rw[q,hoc] at e;have q':oc=p.2:=AB e;exact d w' (by rw[←q'];exact hocd)
theorem Ot{M:Model}{A:Cy}{E:Value→Shared→Prop}{x:Str}{v:V}{Q:Unit→Shared→Prop}(I:Inv X pins σ H s)(hN:X.N.Nodup)(hi:X.N[i]?=some x)(hx:Ly X.env.scope x)(r:RelV v u)
 (h:∀s',Inv X pins (σ.set i (some v)) H s'→Q () s') (hf:X.fn x=true∨X.env.scope.names.lookup x=some .local:=by first | exact .inl rfl | exact .inr rfl | assumption):wpAny M A (storeName X.env x u) Q E s:=
 OG I hN hi hx r (λs' I' _=>h s' I') hf
theorem Inv.call'{s':Shared}{ch:List Addr}(I:Inv X pins σ H s)(ho:s'.os=s.os)(u:Un (JQ X.stack) ch H H' s.heap s'.heap)(hok:HOk X.prog X.w H' s'.heap)(hg:AllBare s'.gens)
 (hch:∀b∈ch,(b∈X.ex∨X.s₀.heap.objs.size≤b)∧b≠X.env.locals∧(∀x c,X.env.cells.lookup x=some c→c≠b)∧∀p∈X.pn++pins,p.1≠b):Inv X pins σ H' s':=by
 obtain⟨h',g',d',t',o'⟩:=s';have e:o'=s.os:=ho;subst e;exact I.call (g':=g') (t':=t') (d':=d') u hok hg hch
end
abbrev XK:=Value→Option Addr→Hp→Prop
abbrev St:=List (Option V)
abbrev VK:=V→Hp→Prop
abbrev TE:=St→Hp→VK→Prop
abbrev TT:=St→Hp→(Bool→Hp→Prop)→Prop
abbrev TA:=St→Hp→(List V→Hp→Prop)→Prop
structure Ends where
 nx:St→Hp→Prop
 rt:VK
 bk:St→Hp→Prop:=λ_ _=>False
 ct:St→Hp→Prop:=λ_ _=>False
abbrev TS:=Ends→St→Hp→Prop
def EP(X:Cx)(pins:List (Addr×Obj))(σ:St)(Q:VK)(u:Value)(s':Shared):Prop:=∃v H',Inv X pins σ H' s'∧RelV v u∧Q v H'
def TP(X:Cx)(pins:List (Addr×Obj))(σ:St)(Q:Bool→Hp→Prop)(b:Bool)(s':Shared):Prop:=∃H',Inv X pins σ H' s'∧Q b H'
def AP(X:Cx)(pins:List (Addr×Obj))(σ:St)(Q:List V→Hp→Prop)(us:List Value)(s':Shared):Prop:=∃vs H',Inv X pins σ H' s'∧Vals vs us∧Q vs H'
def SP(X:Cx)(pins:List (Addr×Obj))(D:Ends)(f:Flow)(s':Shared):Prop:=
 match f with
 | .next=>∃σ' H',Inv X pins σ' H' s'∧D.nx σ' H'
 | .brk=>∃σ' H',Inv X pins σ' H' s'∧D.bk σ' H'
 | .cont=>∃σ' H',Inv X pins σ' H' s'∧D.ct σ' H'
 | .ret u=>∃v σ' H',Inv X pins σ' H' s'∧RelV v u∧D.rt v H'
def PE(X:Cx)(e:Expr)(t:TE):Prop:=
 ∀(pins:List (Addr×Obj))(s:Shared)(σ:St)(H:Hp)(Q:VK),Inv X pins σ H s→t σ H Q→wpAny (model X.prog X.w) X.A (eval e X.env) (EP X pins σ Q) X.xe s
def PT(X:Cx)(e:Expr)(t:TT):Prop:=
 ∀(pins:List (Addr×Obj))(s:Shared)(σ:St)(H:Hp)(Q:Bool→Hp→Prop),Inv X pins σ H s→t σ H Q→wpAny (model X.prog X.w) X.A (isTrue e X.env (eval e X.env)) (TP X pins σ Q) X.xe s
def PW(X:Cx)(e:Expr)(t:TT):Prop:=
 ∀(whole:Sem Value)(pins:List (Addr×Obj))(s:Shared)(σ:St)(H:Hp)(Q:Bool→Hp→Prop),Inv X pins σ H s→t σ H Q→wpAny (model X.prog X.w) X.A (isTrue e X.env whole) (TP X pins σ Q) X.xe s
theorem PW.pt{X:Cx}{t:TT}(h:PW X e t):PT X e t:=h _
def PA(X:Cx)(es:List Expr)(t:TA):Prop:=
 ∀(pos:Pos)(pins:List (Addr×Obj))(s:Shared)(σ:St)(H:Hp)(Q:List V→Hp→Prop),Inv X pins σ H s→t σ H Q→wpAny (model X.prog X.w) X.A (spliced (backTo pos (AL es X.env))) (AP X pins σ Q) X.xe s
def PS(X:Cx)(st:Stmt)(t:TS):Prop:=
 ∀(pins:List (Addr×Obj))(s:Shared)(σ:St)(H:Hp)(D:Ends),Inv X pins σ H s→t D σ H→wpAny (model X.prog X.w) X.A (exec st X.env) (SP X pins D) X.xe s
def PSs(X:Cx)(st:List Stmt)(t:TS):Prop:=
 ∀(pins:List (Addr×Obj))(s:Shared)(σ:St)(H:Hp)(D:Ends),Inv X pins σ H s→t D σ H→wpAny (model X.prog X.w) X.A (execs st X.env) (SP X pins D) X.xe s
theorem Hj{α:Type}{t:Sem α}{Q Q':α→Shared→Prop}{M:Model}(h:wpAny M A t Q E s)(hQ:∀a s,Q a s→Q' a s):wpAny M A t Q' E s:=AA h hQ λ_ _ x=>x
section
variable{X:Cx}
def IP(i:Nat):TE:=λσ H Q=>∃v,σ[i]?=some (some v)∧Q v H
def tC(v:V):TE:=λ_ H Q=>Q v H
theorem Tz{x:Str}(hN:X.N[i]?=some x)(hv:MG X.env.scope x)(hd:(x==("__debug__":Str))=false:=by decide)(hcd:(x==("__classdict__":Str))=false:=by decide):PE X (.Name x pos) (IP i):=by
 intro pins s σ H Q I h;obtain⟨v,e,h⟩:=h;obtain⟨m,hn,hl⟩:=I.loc;obtain⟨u,r,l⟩:=hl i x v hN e hv;have fin:EP X pins σ Q u s:=⟨v,H,I,r,h⟩;rcases l with⟨hk,hm⟩ | ⟨hk,c,hc,hcell⟩
 · exact wpAny_Name (wpAny_loadName_local I.ok.kind hk hn hm fin) hd
 · rcases hk with hk | hk
   · exact wpAny_Name (wpAny_loadName_cell I.ok.kind hk hc hcell fin) hd
   · exact wpAny_Name (wpAny_loadName_free I.ok.kind hk hc hcell fin hcd) hd
theorem Hk{i j pos}:PE X (.Constant (.int i) j pos) (tC (.int i)):=λ_ _ _ H _ I h=>wpAny_Constant_int ⟨.int i,H,I.tok _,⟨_,rfl⟩,h⟩
theorem K9{b j pos}:PE X (.Constant (.bool b) j pos) (tC (.bl b)):=λ_ _ _ H _ I h=>Constant_bool ⟨.bl b,H,I,rfl,h⟩
theorem IY{j pos}:PE X (.Constant .none j pos) (tC .non):=λ_ _ _ H _ I h=>Constant_none ⟨.non,H,I,rfl,h⟩
theorem LX{x j pos}:PE X (.Constant (.str x) j pos) (tC (.str x)):=λ_ _ _ H _ I h=>Calls.Constant_str ⟨.str x,H,I.tok _,⟨_,rfl⟩,h⟩
def Gl(X:Cx)(x:Str):Prop:=X.env.kindOf x=some .globalImplicit
theorem Rg{E:Value→Shared→Prop}{σ:St}{H:Hp}{x:Str}{pos:Pos}{Q:Value→Shared→Prop}(I:Inv X pins σ H s)(hg:Gl X x)(hm:X.mg x=some u)(h:Q u s)
 (hd:(x==("__debug__":Str))=false:=by decide):wpAny (model X.prog X.w) X.A (eval (.Name x pos) X.env) Q E s:=
 ED I.ok.kind hg (Calls.loadGlobal_global (by rw[I.ok.glob];exact I.mod.glob.keeps I.bk) hm h) hd
theorem JZ{E:Value→Shared→Prop}{σ:St}{H:Hp}{x:Str}{pos:Pos}{Q:Value→Shared→Prop}(I:Inv X pins σ H s)(hg:Gl X x)(hm:X.mg x=none)(hv:Bd x=some u)(h:Q u s)
 (hn:x≠"__name__":=by decide) (hd:(x==("__debug__":Str))=false:=by decide):wpAny (model X.prog X.w) X.A (eval (.Name x pos) X.env) Q E s:=by
 obtain⟨mb,h1,h2⟩:=I.mod.blt;exact ED I.ok.kind hg (Calls.loadGlobal_builtin (by rw[I.ok.glob];exact I.mod.glob.keeps I.bk) hm (by rw[I.ok.blt];exact h1.keeps I.bk) ((h2 x hn).trans hv) h) hd
theorem MZ{x:Str}{v:V}(hg:Gl X x)(hm:X.mg x=some u)(r:RelV v u)(hd:(x==("__debug__":Str))=false:=by decide):PE X (.Name x pos) (tC v):=
 λ_ _ _ H _ I h=>Rg I hg hm ⟨v,H,I,r,h⟩ hd
theorem Ke{x:Str}{v:V}(hg:Gl X x)(hm:X.mg x=none)(hv:Bd x=some u)(r:RelV v u)(hn:x≠"__name__":=by decide)(hd:(x==("__debug__":Str))=false:=by decide):PE X (.Name x pos) (tC v):=
 λ_ _ _ H _ I h=>JZ I hg hm hv ⟨v,H,I,r,h⟩ hn hd
variable{a b:Expr}{ta tb:TE}
def PC(X:Cx)(op:CmpOp)(a b:Expr)(t:TE):Prop:=
 ∀(pins:List (Addr×Obj))(s:Shared)(σ:St)(H:Hp)(Q:VK),Inv X pins σ H s→t σ H Q→
  wpAny (model X.prog X.w) X.A (eval a X.env) (λv s₁=>wpAny (model X.prog X.w) X.A (eval b X.env) (λu s₂=>wpAny (model X.prog X.w) X.A (BD op v u) (EP X pins σ Q) X.xe s₂) X.xe s₁) X.xe s
theorem Rt(b:Expr){op:CmpOp}(h:op≠ .In)(h2:op≠ .NotIn):behindInMarks op b=false:=by
 have e1:(op==CmpOp.In)=false:=by cases op<;>first | rfl | exact absurd rfl h
 have e2:(op==CmpOp.NotIn)=false:=by cases op<;>first | rfl | exact absurd rfl h2
 cases b<;>simp[behindInMarks,e1,e2]
def Ph(ta:TE):TE:=λσ H Q=>ta σ H λx H1=>Q (.bl (decide (x= .non))) H1
def TU(ta:TE):TE:=λσ H Q=>ta σ H λx H1=>Q (.bl (!decide (x= .non))) H1
theorem RelV.none_iff{x:V}{v:Value}(r:RelV x v):(v==Value.none)=decide (x= .non):=by
 cases x with
 | non=>cases r;rfl
 | bl _=>cases r;rfl
 | int _=>obtain⟨t,rfl⟩:=r;rfl
 | str _=>obtain⟨t,rfl⟩:=r;rfl
 | byt _=>obtain⟨t,rfl⟩:=r;rfl
 | flt _=>obtain⟨t,rfl⟩:=r;rfl
 | ref _=>cases r;rfl
 | ty _=>cases r;rfl
theorem J9{j pos'}(ha:PE X a ta):PC X .Is a (.Constant .none j pos') (Ph ta):=by intro pins s σ H Q I h;refine Hj (ha pins s σ H _ I h) λv s1 ⟨x,H1,I1,r1,q1⟩=>?_;exact Constant_none (is_none_gen ⟨.bl _,H1,I1,by rw[r1.none_iff];rfl,q1⟩)
theorem L9{j pos'}(ha:PE X a ta):PC X .IsNot a (.Constant .none j pos') (TU ta):=by intro pins s σ H Q I h;refine Hj (ha pins s σ H _ I h) λv s1 ⟨x,H1,I1,r1,q1⟩=>?_;exact Constant_none (isnot_none_gen ⟨.bl _,H1,I1,by rw[r1.none_iff];rfl,q1⟩)
def tB(t:TE):TT:=λσ H Q=>t σ H λx H1=>∃c,x= .bl c∧Q c H1
theorem NU{op:CmpOp}{t:TE}(h:PC X op a b t)(h1:behindInMarks op b=false:=by first | exact Rt _ (by decide) (by decide) | rfl):PE X (.Compare a [op] [b] pos) t:=λpins s σ H Q I hw=>wpAny_Compare1 (h pins s σ H Q I hw) h1
theorem Jj{op:CmpOp}{t:TE}(h:PC X op a b t)(h1:behindInMarks op b=false:=by first | exact Rt _ (by decide) (by decide) | rfl):PT X (.Compare a [op] [b] pos) (tB t):=by intro pins s σ H Q I hw;refine wpAny_isTrue_Compare1 (Hj (h pins s σ H _ I hw) λv s1 h1=>Hj h1 λu s2 h2=>Hj h2 λc s3 ⟨x,H1,I1,r1,q1⟩=>?_) h1;obtain⟨d,rfl,q⟩:=q1;cases r1;exact Bs ⟨H1,I1,q⟩
theorem JD{t:TE}(h:PE X e t)(he:∀whole,isTrue e X.env whole=(do let v ←whole;standAt e.pos;holding [v] (truthy v)):=by intro _;rfl):PT X e (tB t):=by intro pins s σ H Q I hw;refine isTrue_plain (Hj (h pins s σ H _ I hw) λv s1 ⟨x,H1,I1,r1,q1⟩=>?_) (he _);obtain⟨d,rfl,q⟩:=q1;cases r1;exact Bs ⟨H1,I1,q⟩
variable{tA tB':TT}{Ii:List Expr}
def Pm(t u:TT):TT:=λσ H Q=>t σ H λc H1=>if c=true then u σ H1 Q else Q false H1
def YD(t u:TT):TT:=λσ H Q=>t σ H λc H1=>if c=true then Q true H1 else u σ H1 Q
def Pe(t:TT):TT:=λσ H Q=>t σ H λc H1=>Q (!c) H1
theorem LB(ha:PT X a tA):PW X (.BoolOp .And [a] pos) tA:=by
 intro wh pins s σ H Q I h;refine isTrue_and (Hj (ha pins s σ H Q I h) λc s1 e=>?_);cases c with
 | true=>exact isTrue_and_nil e
 | false=>exact e
theorem K_(ha:PT X a tA):PW X (.BoolOp .Or [a] pos) tA:=by
 intro wh pins s σ H Q I h;refine isTrue_or (Hj (ha pins s σ H Q I h) λc s1 e=>?_);cases c with
 | false=>exact isTrue_or_nil e
 | true=>exact e
theorem KZ(ha:PT X a tA)(hb:PW X (.BoolOp .And (b::Ii) pos) tB'):PW X (.BoolOp .And (a::b::Ii) pos) (Pm tA tB'):=by
 intro wh pins s σ H Q I h;refine isTrue_and (Hj (ha pins s σ H _ I h) λc s1 ⟨H1,I1,q1⟩=>?_);cases c with
 | true=>exact hb wh pins s1 σ H1 Q I1 q1
 | false=>exact⟨H1,I1,q1⟩
theorem KR(ha:PT X a tA)(hb:PW X (.BoolOp .Or (b::Ii) pos) tB'):PW X (.BoolOp .Or (a::b::Ii) pos) (YD tA tB'):=by
 intro wh pins s σ H Q I h;refine isTrue_or (Hj (ha pins s σ H _ I h) λc s1 ⟨H1,I1,q1⟩=>?_);cases c with
 | true=>exact⟨H1,I1,q1⟩
 | false=>exact hb wh pins s1 σ H1 Q I1 q1
theorem JH(ha:PT X a tA):PT X (.UnaryOp .Not a pos) (Pe tA):=by intro pins s σ H Q I h;exact isTrue_not (ha pins s σ H (λc H1=>Q (!c) H1) I h)
def TN(ta tb:TE):TE:=λσ H Q=>ta σ H λx H1=>∃c,x= .bl c∧if c=true then tb σ H1 Q else Q (.bl false) H1
def Pd(ta tb:TE):TE:=λσ H Q=>ta σ H λx H1=>∃c,x= .bl c∧if c=true then Q (.bl true) H1 else tb σ H1 Q
def TV(ta:TE):TE:=λσ H Q=>ta σ H λx H1=>∃c,x= .bl c∧Q (.bl (!c)) H1
theorem KC{op}{t:TE}(h:PE X a t):PE X (.BoolOp op [a] pos) t:=λpins s σ H Q I hw=>BoolOp_one (h pins s σ H Q I hw)
theorem KY(ha:PE X a ta)(hb:PE X (.BoolOp .And (b::Ii) pos) tb):PE X (.BoolOp .And (a::b::Ii) pos) (TN ta tb):=by
 intro pins s σ H Q I h;refine BoolOp_and (Hj (ha pins s σ H _ I h) λv s1 ⟨x,H1,I1,r1,q1⟩=>?_);obtain⟨c,rfl,q1⟩:=q1;cases r1;refine Bs ?_;cases c with
 | true=>exact hb pins s1 σ H1 Q I1 q1
 | false=>exact⟨.bl false,H1,I1,rfl,q1⟩
theorem NJ(ha:PE X a ta)(hb:PE X (.BoolOp .Or (b::Ii) pos) tb):PE X (.BoolOp .Or (a::b::Ii) pos) (Pd ta tb):=by
 intro pins s σ H Q I h;refine BoolOp_or (Hj (ha pins s σ H _ I h) λv s1 ⟨x,H1,I1,r1,q1⟩=>?_);obtain⟨c,rfl,q1⟩:=q1;cases r1;refine Bs ?_;cases c with
 | false=>exact hb pins s1 σ H1 Q I1 q1
 | true=>exact⟨.bl true,H1,I1,rfl,q1⟩
theorem Qo(ha:PE X a ta):PE X (.UnaryOp .Not a pos) (TV ta):=by intro pins s σ H Q I h;refine UnaryOp_ (Hj (ha pins s σ H _ I h) λv s1 ⟨x,H1,I1,r1,q1⟩=>?_);obtain⟨c,rfl,q1⟩:=q1;cases r1;exact not_of (Bs ⟨.bl (!c),H1,I1,rfl,q1⟩)
def YE(t:TT)(ta tb:TE):TE:=λσ H Q=>t σ H λc H1=>if c=true then ta σ H1 Q else tb σ H1 Q
theorem Mj{c:Expr}(hc:PT X c tA)(ha:PE X a ta)(hb:PE X b tb):PE X (.IfExp c a b pos) (YE tA ta tb):=by
 intro pins s σ H Q I h;refine wpAny_IfExp (Hj (hc pins s σ H _ I h) λd s1 ⟨H1,I1,q1⟩=>?_);cases d with
 | true=>exact ha pins s1 σ H1 Q I1 q1
 | false=>exact hb pins s1 σ H1 Q I1 q1
end
def SqL(K:Ai)(H:Hp)(a:Addr)(xs:List V):Prop:=
 Rd H a (.lst xs)∨
  ∃(o:Obj)(its:Array Value)(n:Nat),K.lookup a=some o∧o.cls= .type "list"∧o.dict=none∧o.data= .seq its n∧its.size≤Av∧Vals xs its.toList
def SqT(K:Ai)(H:Hp)(a:Addr)(xs:List V):Prop:=
 Rd H a (.tup xs)∨
  ∃(o:Obj)(its:Array Value)(n:Nat),K.lookup a=some o∧o.cls= .type "tuple"∧o.data= .seq its n∧its.size≤Av∧Vals xs its.toList
def PJ:Value→Option V
 | .none=>some .non
 | .bool b=>some (.bl b)
 | .int i _=>some (.int i)
 | .str x _=>some (.str x)
 | .bytes b _=>some (.byt b)
 | .float b _=>some (.flt b)
 | .ref a=>some (.ref a)
 | .type n=>some (.ty n)
 | _=>none
theorem RelV.abs{x:V}(r:RelV x u):PJ u=some x:=by
 cases x with
 | non=>cases r;rfl
 | bl _=>cases r;rfl
 | int _=>obtain⟨t,rfl⟩:=r;rfl
 | str _=>obtain⟨t,rfl⟩:=r;rfl
 | byt _=>obtain⟨t,rfl⟩:=r;rfl
 | flt _=>obtain⟨t,rfl⟩:=r;rfl
 | ref _=>cases r;rfl
 | ty _=>cases r;rfl
theorem RelV.inj{x y:V}(r:RelV x u)(q:RelV y u):x=y:=AB (r.abs.symm.trans q.abs)
theorem l0{α:Type}{P:List α→Prop}(h:P []):∀us:List α,us.length=0→P us
 | [],_=>h
theorem lS{α:Type}{n:Nat}{P:List α→Prop}(h:∀a us,us.length=n→P (a::us)):∀us:List α,us.length=n+1→P us
 | a::us,e=>h a us (Nat.succ.inj e)
theorem Vals.inj:∀{xs ys:List V}{us:List Value},Vals xs us→Vals ys us→xs=ys
 | _,_,_,.nil,.nil=>rfl
 | _,_,_,.cons r t,.cons r' t'=>by rw[r.inj r',Vals.inj t t']
section
variable{X:Cx}{σ:St}{H:Hp}{xs ys:List V}
theorem SqL.of(h:H a=some (.lst xs)):SqL K H a xs:= .inl (.inl h)
theorem SqT.of(h:H a=some (.tup xs)):SqT K H a xs:= .inl (.inl h)
theorem Inv.list(I:Inv X pins σ H s)(h:SqL X.K H a xs):∃its:List Value,Vals xs its∧PlainL s.heap a its.toArray∧xs.length≤Av:=by
 rcases h with h | ⟨o,its,n,hk,hc,hd,hs,hz,r⟩
 · obtain⟨z,its,n,r,e⟩:=h.ok I.hok;exact⟨its,r,⟨_,n,e,rfl,rfl,rfl⟩,z⟩
 · refine⟨its.toList,r,⟨o,n,I.kIn a o hk,hc,hd,by simpa using hs⟩,?_⟩;have e:=r.length;simp only[AJ] at e;omega
theorem Inv.tuple(I:Inv X pins σ H s)(h:SqT X.K H a xs):∃its:List Value,Vals xs its∧IsTup s.heap a its.toArray∧xs.length≤Av:=by
 rcases h with h | ⟨o,its,n,hk,hc,hs,hz,r⟩
 · obtain⟨z,its,r,p⟩:=h.ok I.hok;exact⟨its,r,p.tup,z⟩
 · refine⟨its.toList,r,⟨o,I.kIn a o hk,hc,n,by simpa using hs⟩,?_⟩;have e:=r.length;simp only[AJ] at e;omega
theorem Inv.list_inj(I:Inv X pins σ H s)(h:SqL X.K H a xs)(h':SqL X.K H a ys):xs=ys:=by
 obtain⟨its,r,⟨o,n,e,_,_,d⟩,_⟩:=I.list h;obtain⟨its',r',⟨o',n',e',_,_,d'⟩,_⟩:=I.list h';rw[e] at e';cases e';rw[d] at d';injection d' with d1 _;have:its=its':=by simpa using congrArg Array.toList d1
 subst this;exact r.inj r'
theorem Inv.tuple_inj(I:Inv X pins σ H s)(h:SqT X.K H a xs)(h':SqT X.K H a ys):xs=ys:=by
 obtain⟨its,r,⟨o,e,_,n,d⟩,_⟩:=I.tuple h;obtain⟨its',r',⟨o',e',_,n',d'⟩,_⟩:=I.tuple h';rw[e] at e';cases e';rw[d] at d';injection d' with d1 _;have:its=its':=by simpa using congrArg Array.toList d1
 subst this;exact r.inj r'
end
abbrev Cx.wish(X:Cx)(E:Value→Shared→Prop):Cx:={X with xe:=E}
abbrev Cx.nox(X:Cx):Cx:=X.wish λ_ _=>False
theorem Cx.Ok.wish{X:Cx}(ok:X.Ok)(E:Value→Shared→Prop):(X.wish E).Ok:=
 ⟨ok.mod,ok.kind,ok.glob,ok.blt,ok.above,ok.inj,ok.has,ok.cab,ok.hd,ok.frames,ok.stk,ok.exf,ok.bs,ok.bsz,ok.noex,ok.exfs,ok.funs,ok.frf⟩
theorem Cx.Ok.unwish{X:Cx}(ok:(X.wish E).Ok):X.Ok:=
 ⟨ok.mod,ok.kind,ok.glob,ok.blt,ok.above,ok.inj,ok.has,ok.cab,ok.hd,ok.frames,ok.stk,ok.exf,ok.bs,ok.bsz,ok.noex,ok.exfs,ok.funs,ok.frf⟩
section
variable{X:Cx}{σ:St}{H:Hp}
theorem Inv.wish(I:Inv X pins σ H s)(E:Value→Shared→Prop):Inv (X.wish E) pins σ H s:=⟨I.ok.wish E,I.os,I.bare,I.base,I.loc,I.cell,I.free,I.freeC,I.pin,I.hok,I.len⟩
theorem Inv.unwish(I:Inv (X.wish E) pins σ H s):Inv X pins σ H s:=⟨I.ok.unwish,I.os,I.bare,I.base,I.loc,I.cell,I.free,I.freeC,I.pin,I.hok,I.len⟩
theorem SP.unwish{D:Ends}{f:Flow}{s':Shared}(h:SP (X.wish E) pins D f s'):SP X pins D f s':=by
 cases f with
 | next=>obtain⟨σ',H',I,q⟩:=h;exact⟨σ',H',I.unwish,q⟩
 | brk=>obtain⟨σ',H',I,q⟩:=h;exact⟨σ',H',I.unwish,q⟩
 | cont=>obtain⟨σ',H',I,q⟩:=h;exact⟨σ',H',I.unwish,q⟩
 | ret u=>obtain⟨v,σ',H',I,r,q⟩:=h;exact⟨v,σ',H',I.unwish,r,q⟩
theorem PSs.nox{st:List Stmt}{t:TS}(h:PSs X.nox st t):PSs X st t:=λpins s σ H D I hw=> AA (h pins s σ H D (I.wish _) hw) (λ_ _ q=>q.unwish) λ_ _ z=>Dc z
end
section
variable{X:Cx}{st:Stmt}{Ii:List Stmt}{t u:TS}{te:TE}
def Qe:TS:=λD σ H=>D.nx σ H
def Mu(t u:TS):TS:=λD σ H=>t {D with nx:=u D} σ H
theorem Ig:PSs X [] Qe:=λ_ _ σ H _ I h=>Fm ⟨σ,H,I,h⟩
theorem Hq(h1:PS X st t)(h2:PSs X Ii u):PSs X (st::Ii) (Mu t u):=by
 intro pins s σ H D I h;refine wpAny_execs_cons (Hj (h1 pins s σ H {D with nx:=u D} I h) λf s1 q=>?_)
 cases f with
 | next=> obtain⟨σ',H',I',q⟩:=q;exact h2 pins s1 σ' H' D I' q
 | ret v=>exact q
 | brk=>exact q
 | cont=>exact q
theorem Hw(h1:PS X st t):PSs X [st] t:=by
 intro pins s σ H D I h;refine wpAny_execs_cons (Hj (h1 pins s σ H D I h) λf s1 q=>?_);cases f with
 | next=>exact Fm q
 | ret v=>exact q
 | brk=>exact q
 | cont=>exact q
theorem Inv.quiet{σ:St}{H:Hp}(I:Inv X pins σ H s):interactive X.env=false:=by simp[interactive,I.ok.kind]
def TR(te:TE):TS:=λD σ H=>te σ H λ_ H1=>D.nx σ H1
theorem Kf(he:PE X e te)(hs:swapsWith e none pos.line X.env=pure false:=by rfl):PS X (.Expr e pos) (TR te):=by intro pins s σ H D I h;exact wpAny_Expr_any (Hj (he pins s σ H _ I h) λv s1 ⟨x,H1,I1,r1,q1⟩=>⟨σ,H1,I1,q1⟩) I.quiet hs
def Pc(te:TE):TS:=λD σ H=>te σ H D.rt
theorem HF(he:PE X e te):PS X (.Return (some e) pos) (Pc te):=by intro pins s σ H D I h;exact wpAny_Return_some (Hj (he pins s σ H _ I h) λv s1 ⟨x,H1,I1,r1,q1⟩=>⟨x,σ,H1,I1,r1,q1⟩)
def Pi(c:TT)(t u:TS):TS:=λD σ H=>c σ H λb H1=>if b=true then t D σ H1 else u D σ H1
theorem Ia{c:Expr}{a b:List Stmt}{tc:TT}(hc:PT X c tc)(ha:PSs X a t)(hb:PSs X b u):PS X (.If c a b pos) (Pi tc t u):=by
 intro pins s σ H D I h;refine wpAny_If (Hj (hc pins s σ H _ I h) λd s1 ⟨H1,I1,q1⟩=>?_);cases d with
 | true=>exact ha pins s1 σ H1 D I1 q1
 | false=>exact hb pins s1 σ H1 D I1 q1
def U3:TS:=λ_ _ _=>False
theorem Mk:PS X st U3:=λ_ _ _ _ _ _ h=>h.elim
end
abbrev TG:=V→St→Hp→(St→Hp→Prop)→Prop
abbrev KM:=List V→St→Hp→(St→Hp→Prop)→Prop
def PG(X:Cx)(target:Expr)(t:TG):Prop:=
 ∀(pins:List (Addr×Obj))(s:Shared)(σ:St)(H:Hp)(v:V)(u:Value)(Q:St→Hp→Prop),Inv X pins σ H s→RelV v u→t v σ H Q→
  wpAny (model X.prog X.w) X.A (assign target X.env u) (λ_ s'=>∃σ' H',Inv X pins σ' H' s'∧Q σ' H') X.xe s
def MI(X:Cx)(ts:List Expr)(t:KM):Prop:=
 ∀(pins:List (Addr×Obj))(s:Shared)(σ:St)(H:Hp)(vs:List V)(us:List Value)(Q:St→Hp→Prop),Inv X pins σ H s→Vals vs us→t vs σ H Q→
  wpAny (model X.prog X.w) X.A (assignInOrder ((assignEach ts X.env).map (·.2)) us) (λ_ s'=>∃σ' H',Inv X pins σ' H' s'∧Q σ' H') X.xe s
abbrev Lv:=V→V→V→Hp→(Hp→Prop)→Prop
def MH(X:Cx)(t:Lv):Prop:=
 ∀(pins:List (Addr×Obj))(s:Shared)(σ:St)(H:Hp)(o i v:V)(ov iv u:Value)(Q:Hp→Prop),Inv X pins σ H s→RelV o ov→RelV i iv→RelV v u→t o i v H Q→
  wpAny (model X.prog X.w) X.A (setItem ov iv u) (λ_ s'=>∃H',Inv X pins σ H' s'∧Q H') X.xe s
abbrev PL:=V→V→Hp→VK→Prop
def S_(X:Cx)(op:Operator)(t:PL):Prop:=
 ∀(pins:List (Addr×Obj))(s:Shared)(σ:St)(H:Hp)(x y:V)(v u:Value)(Q:VK),Inv X pins σ H s→RelV x v→RelV y u→t x y H Q→
  wpAny (model X.prog X.w) X.A (inplaceOp op v u) (EP X pins σ Q) X.xe s
section
variable{X:Cx}
def J6(i:Nat):TG:=λv σ H Q=>Q (σ.set i (some v)) H
theorem HA{x:Str}(hN:X.N.Nodup)(hi:X.N[i]?=some x)(hx:Ly X.env.scope x)(hf:X.fn x=true∨X.env.scope.names.lookup x=some .local:=by first | exact .inl rfl | exact .inr rfl | assumption):PG X (.Name x pos) (J6 i):=by intro pins s σ H v u Q I r h;exact EM (Ot I hN hi hx r (λs' I'=>⟨_,H,I',h⟩) hf)
def P5:KM:=λvs σ H Q=>vs=[]∧Q σ H
def T9(t:TG)(u:KM):KM:=λvs σ H Q=>∃v r,vs=v::r∧t v σ H λσ' H'=>u r σ' H' Q
theorem IW:MI X [] P5:=by intro pins s σ H vs us Q I r h;obtain⟨e,h⟩:=h;subst e;cases r;exact assignInOrder_nil ⟨σ,H,I,h⟩
theorem HG{es:List Expr}{t:TG}{u:KM}(h1:PG X e t)(h2:MI X es u)
 (hs:(assignEach (e::es) X.env).map (·.2)=assign e X.env::(assignEach es X.env).map (·.2):=by rfl):MI X (e::es) (T9 t u):=by
 intro pins s σ H vs us Q I r h;obtain⟨v,vr,e1,h⟩:=h;subst e1;cases r with
 | cons r rr=> rw[hs];refine assignInOrder_cons (Hj (h1 pins s σ H _ _ _ I r h) λ_ s1 ⟨σ1,H1,I1,q1⟩=>?_);exact h2 pins s1 σ1 H1 _ _ Q I1 rr q1
def MF(K:Ai)(n:Nat)(t:KM):TG:=λv σ H Q=>∃a xs,v= .ref a∧SqT K H a xs∧xs.length=n∧t xs σ H Q
theorem Jq{es:List Expr}{k:Nat}{t:KM}{n:Nat}(hc:X.calm=true)(h:MI X es t)
 (hn:(assignEach es X.env).length=n:=by rfl) (hst:(assignEach es X.env).findIdx? (·.1)=none:=by rfl):PG X (.Tuple es k pos) (MF X.K n t):=by
 intro pins s σ H v u Q I r hw;obtain⟨a,xs,e1,hq,hl,hw⟩:=hw;subst e1;cases r;obtain⟨its,rv,ht,hz⟩:=I.tuple hq;refine assign_Tuple_tuple (I.ok.hd hc) ht (by simp[hn,←hl,rv.length]) hst λh' hx=>?_;have I1:Inv X pins σ H {s with heap:=h'}:=I.kept (t':=s.toks) λb o e=>hx b o (Ar (Am e)) e
 exact h pins _ σ H xs _ Q I1 (by simpa using rv) hw
def P4(to ti:TE)(t:Lv):TG:=λv σ H Q=>to σ H λo H1=>ti σ H1 λi H2=>t o i v H2 λH3=>Q σ H3
theorem NV{o i:Expr}{to ti:TE}{t:Lv}(ho:PE X o to)(hi:PE X i ti)(hs:MH X t)
 (ha:∀v,assign (.Subscript o i pos) X.env v=(do
  let ov ←holding [v] (eval o X.env)
  let iv ←holding [v,ov] (eval i X.env)
  standAt pos
  holding [v,ov,iv] (setItem ov iv v)
  release [v,ov,iv] []):=by intro _;rfl):PG X (.Subscript o i pos) (P4 to ti t):=by
 intro pins s σ H v u Q I r h;rw[ha];refine Aa (Bh (Hj (ho pins s σ H _ I h) λov s1 ⟨x,H1,I1,r1,q1⟩=>?_));refine Aa (Bh (Hj (hi pins s1 σ H1 _ I1 q1) λiv s2 ⟨y,H2,I2,r2,q2⟩=>?_));refine Aa (Bm (Aa (Bh (Hj (hs pins s2 σ H2 x y v ov iv u _ I2 r1 r2 r q2) λ_ s3 ⟨H3,I3,q3⟩=>?_))));exact wpAny_release ⟨σ,H3,I3,q3⟩
def K0(te:TE)(g:TG):TS:=λD σ H=>te σ H λx H1=>g x σ H1 D.nx
theorem JM{tg:Expr}{te:TE}{g:TG}(he:PE X e te)(hg:PG X tg g)(hs:swapsWithSole [tg] e pos.line X.env=pure false:=by rfl)(hw:swappedStores [tg] e X.env=pure none:=by rfl)
 (h1:(assignEach [tg] X.env).map (·.2)=[assign tg X.env]:=by rfl):PS X (.Assign [tg] e pos) (K0 te g):=by
 intro pins s σ H D I h;refine wpAny_Assign_stores (Hj (he pins s σ H _ I h) λv s1 ⟨x,H1,I1,r1,q1⟩=>?_) hs hw;rw[h1];exact Hj (hg pins s1 σ H1 x v _ I1 r1 q1) λ_ s2 q=>q
theorem HB{x:Str}{te:TE}{pos':Pos}(hN:X.N.Nodup)(hi:X.N[i]?=some x)(hx:Ly X.env.scope x)(he:PE X e te)(hs:swapsWith e (some (.Name x pos')) pos.line X.env=pure false:=by rfl)(hf:X.fn x=true∨X.env.scope.names.lookup x=some .local:=by first | exact .inl rfl | exact .inr rfl | assumption):
 PS X (.Assign [.Name x pos'] e pos) (K0 te (J6 i)):=by
 intro pins s σ H D I h;refine wpAny_Assign_Name (Hj (he pins s σ H _ I h) λv s1 ⟨y,H1,I1,r1,q1⟩=>?_) hs;exact Ot I1 hN hi hx r1 (λs2 I2=>⟨_,H1,I2,q1⟩) hf
def Pl(i:Nat)(te:TE)(ti:PL):TS:=λD σ H=>∃x,σ[i]?=some (some x)∧te σ H λy H1=>ti x y H1 λz H2=>D.nx (σ.set i (some z)) H2
theorem UM{x:Str}{te:TE}{op:Operator}{ti:PL}{pos':Pos}(hN:X.N.Nodup)(hi:X.N[i]?=some x)(hx:Ly X.env.scope x)(he:PE X e te)(ho:S_ X op ti)(hf:X.fn x=true∨X.env.scope.names.lookup x=some .local:=by first | exact .inl rfl | exact .inr rfl | assumption):
 PS X (.AugAssign (.Name x pos') op e pos) (Pl i te ti):=by
 intro pins s σ H D I h;obtain⟨v,e1,h⟩:=h;obtain⟨m,hn,hl⟩:=I.loc;have vis:MG X.env.scope x:=by rcases hx with k | k;exact .inl k;exact .inr (.inl k)
 obtain⟨u,r,l⟩:=hl i x v hi e1 vis;refine wpAny_AugAssign_Name ?_;have go:wpAny (model X.prog X.w) X.A (eval e X.env) (λw s₂=>wpAny (model X.prog X.w) X.A (inplaceOp op u w) (λr s₃=>wpAny (model X.prog X.w) X.A (storeName X.env x r) (λ_=>SP X pins D .next) X.xe s₃) X.xe s₂) X.xe s:=by refine Hj (he pins s σ H _ I h) λw s1 ⟨y,H1,I1,r1,q1⟩=>?_;refine Hj (ho pins s1 σ H1 v y u w _ I1 r r1 q1) λz s2 ⟨zv,H2,I2,r2,q2⟩=>?_;exact Ot I2 hN hi hx r2 (λs3 I3=>⟨_,H2,I3,q2⟩) hf
 rcases l with⟨hk,hm⟩ | ⟨hk,c,hc,hcell⟩
 · exact wpAny_loadName_local I.ok.kind hk hn hm go
 · rcases hk with hk | hk
   · exact wpAny_loadName_cell I.ok.kind hk hc hcell go
   · rcases hx with k | k
     · have:X.env.scope.names.lookup x=some .free:=hk;rw[k] at this;cases this
     · have:X.env.scope.names.lookup x=some .free:=hk;rw[k] at this;cases this
end
section
variable{X:Cx}
end
structure It where
 go:Nat→Hp→Prop
 yld:Nat→Hp→V→Hp→Prop
 stop:Nat→Hp→Prop
def Hm(X:Cx)(pins:List (Addr×Obj))(H:Hp)(b:Addr):Prop:=
 H b=none∧b≠X.env.locals∧b ∉ X.fs∧(b∈X.ex∨X.s₀.heap.objs.size≤b)∧(∀x c,X.env.cells.lookup x=some c→c≠b)∧∀p∈X.pn++pins,p.1≠b
theorem Inv.fpOk{X:Cx}{σ:St}{H H':Hp}(I:Inv X pins σ H s)(hb:s.heap.objs.size≤b)(hn:H' b=none):Hm X pins H' b:=by
 refine⟨hn,C7 (AG I.lt hb),I.nofs hb,.inr (AT I.sz hb),λx c e z=>?_,λp hp z=>?_⟩
 · obtain⟨v,q⟩:=I.cell x c e;exact absurd (AG q.lt (by rw[z];exact hb)) (CD _)
 · exact absurd (AG (Am (I.pin p hp).1) (by rw[z];exact hb)) (CD _)
structure Turn(P:Bt)(w:World)(K:Ai)(tg:Expr)(J:It)(fp:List Addr)(it:Addr)(tn:Nat→Heap→Prop):Prop where
 mem:it∈fp
 obj:∀i h,tn i h→∀b∈fp,∃o,h.get? b=some o∧∀v,o.data≠ .cell v
 keep:∀i h h',tn i h→(∀b∈fp,∀o,h.get? b=some o→h'.get? b=some o)→tn i h'
 item:∀(X:Cx),X.prog=P→X.w=w→X.K=K→X.calm=true→∀(i:Nat)(pins:List (Addr×Obj))(s:Shared)(σ:St)(H:Hp)(E:Value→Shared→Prop),Inv X pins σ H s→(∀b∈fp,Hm X pins H b)→tn i s.heap→J.go i H→
  wpAny (model P w) X.A (pyNext (.ref it)) (λr s1=>∃u,r=some u∧
   wpAny (model P w) X.A (Bz tg (.ref it) u) (λ_ s2=>∃x H',Inv X pins σ H' s2∧RelV x u∧J.yld i H x H'∧tn (i+1) s2.heap∧∀b∈fp,H' b=none) E s1) E s
 done:∀(X:Cx),X.prog=P→X.w=w→X.K=K→X.calm=true→∀(i:Nat)(pins:List (Addr×Obj))(s:Shared)(σ:St)(H:Hp)(E:Value→Shared→Prop),Inv X pins σ H s→(∀b∈fp,Hm X pins H b)→tn i s.heap→J.stop i H→
  wpAny (model P w) X.A (pyNext (.ref it)) (λr s1=>r=none∧Inv X pins σ H s1) E s
 self:∀(A:Cy)(i:Nat)(s:Shared)(Q:Value→Shared→Prop)(E:Value→Shared→Prop),tn i s.heap→Q (.ref it) s→wpAny (model P w) A (pyIter (.ref it)) Q E s
abbrev TI:=St→Hp→(It→Hp→Prop)→Prop
def Ta(X:Cx)(pins:List (Addr×Obj))(σ:St)(tg:Expr)(R:It→Hp→Prop)(itv:Value)(s2:Shared):Prop:=
 ∃(it:Addr)(fp:List Addr)(tn:Nat→Heap→Prop)(J:It)(H':Hp),itv= .ref it∧Inv X pins σ H' s2∧Turn X.prog X.w X.K tg J fp it tn∧tn 0 s2.heap∧(∀b∈fp,Hm X pins H' b)∧R J H'
def PI(X:Cx)(tg iter:Expr)(wi:TI):Prop:=
 ∀(pins:List (Addr×Obj))(s:Shared)(σ:St)(H:Hp)(R:It→Hp→Prop),Inv X pins σ H s→wi σ H R→
  wpAny (model X.prog X.w) X.A (eval iter X.env) (λv s1=>wpAny (model X.prog X.w) X.A (pyIter v) (Ta X pins σ tg R) X.xe s1) X.xe s
theorem LO{M:Model}{A:Cy}{E:Value→Shared→Prop}{tg:Expr}{it:Addr}{u:Value}{o:Obj}{n:String}{vs:Array Value}{Q:Unit→Shared→Prop}(ho:s.heap.get? it=some o)(hc:o.cls= .type n)(hd:o.data= .fields vs)
 (hn:["enumerate","zip","dict_itemiterator","dict_reverseitemiterator","odict_iterator","itertools.zip_longest","itertools.pairwise"].contains n=false) (hQ:Q () s):wpAny M A (Bz tg (.ref it) u) Q E s:=by
 unfold Bz;cases tg<;>first
  | exact Ac hQ
  | (cases u<;>first
   | exact Ac hQ
   | (refine Aa (wpAny_load ho ?_)
      rw[hc,hd];show wpAny M A (if(["enumerate","zip","dict_itemiterator","dict_reverseitemiterator","odict_iterator","itertools.zip_longest","itertools.pairwise"].contains n && vs[0]?==some (rawInt _))=true then _ else _) Q E s
      rw[if_neg (by intro h;rw[hn,Bool.false_and] at h;cases h)];exact Ac hQ))
def JJ(K:Ai)(a:Addr):It:=
 ⟨λi H=>∃xs x,SqL K H a xs∧xs[i]?=some x,λi H x H'=>H'=H∧∀xs,SqL K H a xs→xs[i]?=some x,λi H=>∃xs,SqL K H a xs∧xs.length≤i⟩
def Ko(K:Ai)(a:Addr):It:=
 ⟨λi H=>∃xs x,SqT K H a xs∧xs[i]?=some x,λi H x H'=>H'=H∧∀xs,SqT K H a xs→xs[i]?=some x,λi H=>∃xs,SqT K H a xs∧xs.length≤i⟩
def KN(lo:Int)(n:Nat):It:=⟨λi _=>i<n,λi H x H'=>H'=H∧x= .int (lo+i),λi _=>n≤i⟩
theorem Wd{tg:Expr}(a it:Addr):Turn P w K tg (JJ K a) [it] it (λi h=>h.IsListIter it a i) where
 mem:=by simp
 obj:=λi h st b hb=>by
  have e:b=it:=by simpa using hb
  subst e;obtain⟨o,e,c,d⟩:=st;exact⟨o,e,λv z=>by rw[d] at z;cases z⟩
 keep:=λi h h' st k=>st.at λo e=>k it (by simp) o e
 item:=by
  intro X hP hw hK hc i pins s σ H E I hf st hg;subst hP hw hK;obtain⟨xs,x,hq,hx⟩:=hg;obtain⟨its,rv,p,hz⟩:=I.list hq;obtain⟨u,hu,ru⟩:=rv.get hx;obtain⟨f0,f1,f2,f3,f4,f5⟩:=hf it (by simp);refine wpAny_pyNext_list_item st p.isList (x:=u) (by simpa using hu) λh' st' sb=>?_;have I1:Inv X pins σ H {s with heap:=h'}:=I.turned (t':=s.toks) (λb o hb e=>(sb.2 b hb).trans e) f0 f1 f3 f4 f5
  obtain⟨o,e,c,d⟩:=id st';exact⟨u,rfl,LO (s:={s with heap:=h'}) e c d (by decide) ⟨x,H,I1,ru,⟨rfl,λys hy=>by rw[I.list_inj hy hq];exact hx⟩,st',λb hb=>(hf b hb).1⟩⟩
 done:=by intro X hP hw hK hc i pins s σ H E I hf st hg;subst hP hw hK;obtain⟨xs,hq,hx⟩:=hg;obtain⟨its,rv,p,hz⟩:=I.list hq;obtain⟨f0,f1,f2,f3,f4,f5⟩:=hf it (by simp);have hl:=rv.length;exact wpAny_pyNext_list_end (I.ok.hd hc) st p.isList (by simp;omega) λh' eb=>⟨rfl,I.turned (t':=s.toks) (λb o hb e=>eb b o hb e) f0 f1 f3 f4 f5⟩
 self:=λ_ _ _ _ _ st h=>wpAny_pyIter_listiter st h
theorem W_{tg:Expr}(a it:Addr):Turn P w K tg (Ko K a) [it] it (λi h=>h.IsTupleIter it a i) where
 mem:=by simp
 obj:=λi h st b hb=>by
  have e:b=it:=by simpa using hb
  subst e;obtain⟨o,e,c,d⟩:=st;exact⟨o,e,λv z=>by rw[d] at z;cases z⟩
 keep:=λi h h' st k=>st.at λo e=>k it (by simp) o e
 item:=by
  intro X hP hw hK hc i pins s σ H E I hf st hg;subst hP hw hK;obtain⟨xs,x,hq,hx⟩:=hg;obtain⟨its,rv,p,hz⟩:=I.tuple hq;obtain⟨u,hu,ru⟩:=rv.get hx;obtain⟨f0,f1,f2,f3,f4,f5⟩:=hf it (by simp);refine wpAny_pyNext_tuple_item st (show s.heap.IsTuple a its.toArray from p) (x:=u) (by simpa using hu) λh' st' sb=>?_;have I1:Inv X pins σ H {s with heap:=h'}:=I.turned (t':=s.toks) (λb o hb e=>(sb.2 b hb).trans e) f0 f1 f3 f4 f5
  obtain⟨o,e,c,d⟩:=id st';exact⟨u,rfl,LO (s:={s with heap:=h'}) e c d (by decide) ⟨x,H,I1,ru,⟨rfl,λys hy=>by rw[I.tuple_inj hy hq];exact hx⟩,st',λb hb=>(hf b hb).1⟩⟩
 done:=by intro X hP hw hK hc i pins s σ H E I hf st hg;subst hP hw hK;obtain⟨xs,hq,hx⟩:=hg;obtain⟨its,rv,p,hz⟩:=I.tuple hq;obtain⟨f0,f1,f2,f3,f4,f5⟩:=hf it (by simp);have hl:=rv.length;exact wpAny_pyNext_tuple_end (I.ok.hd hc) st (show s.heap.IsTuple a its.toArray from p) (by simp;omega) λh' eb=>⟨rfl,I.turned (t':=s.toks) (λb o hb e=>eb b o hb e) f0 f1 f3 f4 f5⟩
 self:=λ_ _ _ _ _ st h=>wpAny_pyIter_tupleiter st h
theorem WZ{tg:Expr}(it:Addr)(lo:Int)(n:Nat):Turn P w K tg (KN lo n) [it] it (λi h=>IsRangeIter h it (lo+(i:Nat)*1) ((n:Int) - (i:Nat)) 1) where
 mem:=by simp
 obj:=λi h st b hb=>by
  have e:b=it:=by simpa using hb
  subst e;exact⟨_,st,λv z=>by have z':Data.fields _=Data.cell v:=z;cases z'⟩
 keep:=λi h h' st k=>k it (by simp) _ st
 item:=by
  intro X hP hw hK hc i pins s σ H E I hf st hg;subst hP hw hK;obtain⟨f0,f1,f2,f3,f4,f5⟩:=hf it (by simp);have W:=Walks.range (prog:=X.prog) (w:=X.w) (I.ok.hd hc) it lo 1 n;refine W.item i s _ _ hg st λv h' tk hv st' kk=>?_;obtain⟨t,rfl⟩:=hv;have I1:Inv X pins σ H {s with heap:=h',toks:=tk}:=I.turned (λb o hb e=>kk b o (by simpa using hb) e) f0 f1 f3 f4 f5
  refine⟨_,rfl,LO (s:={s with heap:=h',toks:=tk}) (n:="range_iterator") st' rfl rfl (by decide) ⟨.int (lo+i),H,I1,⟨t,?_⟩,⟨rfl,rfl⟩,st',λb hb=>(hf b hb).1⟩⟩
  rw[Int.mul_one]
 done:=by intro X hP hw hK hc i pins s σ H E I hf st hg;subst hP hw hK;obtain⟨f0,f1,f2,f3,f4,f5⟩:=hf it (by simp);exact wpAny_pyNext_range_end (I.ok.hd hc) st (by have:n≤i:=hg;omega) λh' eb=>⟨rfl,I.turned (t':=s.toks) (λb o hb e=>eb b o hb e) f0 f1 f3 f4 f5⟩
 self:=λ_ _ _ _ _ st h=>wpAny_pyIter_rangeiter st h
section
variable{X:Cx}{tg:Expr}
def PU(K:Ai)(tl:TE):TI:=λσ H R=>tl σ H λx H1=>∃a,x= .ref a∧(∃xs,SqL K H1 a xs)∧R (JJ K a) H1
def ME(K:Ai)(tl:TE):TI:=λσ H R=>tl σ H λx H1=>∃a,x= .ref a∧(∃xs,SqT K H1 a xs)∧R (Ko K a) H1
theorem Jk{l:Expr}{tl:TE}(hl:PE X l tl):PI X tg l (PU X.K tl):=by
 intro pins s σ H R I h;refine Hj (hl pins s σ H _ I h) λv s1 ⟨x,H1,I1,r1,q1⟩=>?_;obtain⟨a,e,⟨xs,hq⟩,q⟩:=q1;subst e;cases r1;obtain⟨its,rv,p,hz⟩:=I1.list hq;refine Dr p.isList ?_;refine⟨s1.heap.objs.size,[s1.heap.objs.size],_,_,H1,rfl,I1.kept (t':=s1.toks) λb o e=>Ad _ e,Wd a _,⟨_,Ao _ rfl,rfl,rfl⟩,λb hb=>?_,q⟩;have e:b=s1.heap.objs.size:=by simpa using hb
 subst e;exact I1.fpOk (Ag _) (I1.hok.fresh (Ag _))
theorem Ku{l:Expr}{tl:TE}(hl:PE X l tl):PI X tg l (ME X.K tl):=by
 intro pins s σ H R I h;refine Hj (hl pins s σ H _ I h) λv s1 ⟨x,H1,I1,r1,q1⟩=>?_;obtain⟨a,e,⟨xs,hq⟩,q⟩:=q1;subst e;cases r1;obtain⟨its,rv,p,hz⟩:=I1.tuple hq;refine CO (show s1.heap.IsTuple a its.toArray from p) ?_;refine⟨s1.heap.objs.size,[s1.heap.objs.size],_,_,H1,rfl,I1.kept (t':=s1.toks) λb o e=>Ad _ e,W_ a _,⟨_,Ao _ rfl,rfl,rfl⟩,λb hb=>?_,q⟩;have e:b=s1.heap.objs.size:=by simpa using hb
 subst e;exact I1.fpOk (Ag _) (I1.hok.fresh (Ag _))
theorem VV{σ:St}{H:Hp}{R:It→Hp→Prop}{E:Value→Shared→Prop}{lo hi:Int}{t u v:Tok}{tk:Nat}(I:Inv X pins σ H s)(h1: -(2^62)≤lo)(h2:lo<2^62)(h3: -(2^62)≤hi)(h4:hi<2^62)
 (q:R (KN lo (hi - lo).toNat) H):wpAny (model X.prog X.w) X.A (pyIter (.ref s.heap.objs.size)) (Ta X pins σ tg R) E {s with heap:=s.heap.push {cls:= .type "range",data:= .fields #[.int lo t,.int hi u,.int 1 v]},toks:=tk}:=by
 refine wpAny_pyIter_range (IsRange.new ..) (small_one h1 h2 h3 h4) ?_;have I1:Inv X pins σ H {s with heap:=s.heap.push {cls:= .type "range",data:= .fields #[.int lo t,.int hi u,.int 1 v]},toks:=tk}:=I.kept λb o e=>Ad _ e
 refine⟨(s.heap.push {cls:= .type "range",data:= .fields #[.int lo t,.int hi u,.int 1 v]}).objs.size,[(s.heap.push {cls:= .type "range",data:= .fields #[.int lo t,.int hi u,.int 1 v]}).objs.size],_,_,H,rfl,
  I1.kept (t':=tk) λb o e=>Ad _ e,WZ _ lo (hi - lo).toNat,?_,λb hb=>?_,q⟩
 · have e1:lo+((0:Nat):Int)*1=lo:=by simp
   have e2:(((hi - lo).toNat:Nat):Int) - ((0:Nat):Int)=Builtin.Range.rangeSize lo hi 1:=by rw[rangeSize_one];split<;>omega
   show IsRangeIter _ _ (lo+((0:Nat):Int)*1) ((((hi - lo).toNat:Nat):Int) - ((0:Nat):Int)) 1;rw[e1,e2];exact Ao _ rfl
 · have e:b=(s.heap.push {cls:= .type "range",data:= .fields #[.int lo t,.int hi u,.int 1 v]}).objs.size:=by simpa using hb
   subst e;exact I1.fpOk (Ag _) (I1.hok.fresh (Ag _))
def TC(ta:TA):TI:=λσ H R=>ta σ H λvs H1=>∃j:Int,vs=[.int j]∧ -(2^62)≤j∧j<2^62∧R (KN 0 j.toNat) H1
theorem Mf{a:Expr}{ta:TA}{p:Pos}(hg:Gl X "range")(hm:X.mg "range"=none)(ha:PA X [a] ta)(hs:AL [a] X.env=[(false,eval a X.env)]:=by rfl):PI X tg (.Call (.Name "range" p) [a] [] pos) (TC ta):=by
 intro pins s σ H R I h;refine Call_ (JZ I hg hm boot_range (BS (Hj (ha pos pins s σ H _ I h) λus s1 ⟨vs,H1,I1,r1,q1⟩=>?_) hs rfl));obtain⟨j,e,q1,q2,q⟩:=q1;subst e;cases r1 with
 | cons r rr=> cases rr;obtain⟨t,rfl⟩:=r;exact call_range_1 (VV I1 (by omega) (by omega) q1 q2 (by simpa using q))
def Pj(wi:TI)(g:TG)(tb:TS):TS:=λD σ H=>wi σ H λJ H1=>∃W:Nat→Nat→St→Hp→Prop,(∃m,W 0 m σ H1)∧∀i m σ H,W i m σ H→
 (J.stop i H∧D.nx σ H)∨(J.go i H∧∃N:St→Hp→Prop,(∀σ' H',N σ' H'→∃m',m'<m∧W (i+1) m' σ' H')∧∀x H',J.yld i H x H'→g x σ H' λσ2 H2=>tb {D with nx:=N,ct:=N,bk:=D.nx} σ2 H2)
def IN(fp:List Addr)(h:Heap):List (Addr×Obj):=fp.filterMap λb=>(h.get? b).map λo=>(b,o)
theorem Jt{fp:List Addr}{o:Obj}(hb:b∈fp)(e:h.get? b=some o):(b,o)∈IN fp h:=DC.mpr ⟨b,hb,by rw[e];rfl⟩
theorem OJ{fp:List Addr}{p:Addr×Obj}(hp:p∈IN fp h):p.1∈fp∧h.get? p.1=some p.2:=by
 obtain⟨b,hb,e⟩:=DC.mp hp;cases q:h.get? b with
 | none=>rw[q] at e;cases e
 | some o=> rw[q] at e;have e':(b,o)=p:=AB e;subst e';exact⟨hb,q⟩
theorem Inv.pinned{σ:St}{H:Hp}{fp:List Addr}(I:Inv X pins σ H s)(hf:∀b∈fp,Hm X pins H b)(ho:∀b∈fp,∃o,s.heap.get? b=some o∧∀v,o.data≠ .cell v):Inv X (pins++IN fp s.heap) σ H s:=
 I.pins_of λp hp=>(As.mp hp).elim (λz=>I.pin p (Aj _ z)) λz=>by obtain⟨hb,e⟩:=OJ z;obtain⟨f0,f1,f2,_⟩:=hf p.1 hb;obtain⟨o,e',d⟩:=ho p.1 hb;rw[e] at e';cases e';exact⟨e,f0,f1,f2,d⟩
theorem Inv.unpinned{pl:List (Addr×Obj)}{σ:St}{H:Hp}(I:Inv X (pins++pl) σ H s):Inv X pins σ H s:=I.pins_of λp hp=>I.pin p (Aj _ (Bu _ hp))
theorem JG{iter:Expr}{body:List Stmt}{wi:TI}{g:TG}{tb:TS}{pos:Pos}(hp:PassesOwn (model X.prog X.w) X.A X.env X.xe)(hc:X.calm=true)(hi:PI X tg iter wi)(hg:PG X tg g)(hb:PSs X body tb)
 (hs:∀x,Bb iter X.env x=pure x:=by intro _;rfl):PS X (.For tg iter body [] pos) (Pj wi g tb):=by
 intro pins s σ H D I h;refine wpAny_For (Hj (hi pins s σ H _ I h) λv s1 h1=>Hj h1 λitv s2 h2=>?_) hs;obtain⟨it,fp,tn,J,H2,e,I2,T,st2,f2,W,⟨m0,w0⟩,turn⟩:=h2;subst e;have stat:∀{H':Hp},(∀b∈fp,H' b=none)→∀b∈fp,Hm X pins H' b:=λhn b hb=>⟨hn b hb,(f2 b hb).2⟩;refine codeAny_forLoop_any (λn s'=>∃i σ' H',Inv X pins σ' H' s'∧tn i s'.heap∧(∀b∈fp,H' b=none)∧W i n σ' H') ?_ m0 ⟨0,σ,H2,I2,st2,λb hb=>(f2 b hb).1,w0⟩;rintro n s3 ⟨i,σ3,H3,I3,st3,fr3,w3⟩;rcases turn i n σ3 H3 w3 with⟨stop,qn⟩ | ⟨go,N,hN,step⟩
 · refine D6 hp (Hj (T.done X rfl rfl rfl hc i pins s3 σ3 H3 X.xe I3 (stat fr3) st3 stop) λr s4 ⟨hr,I4⟩=>?_);subst hr;exact Fm ⟨σ3,H3,I4,qn⟩
 · refine D6 hp (Hj (T.item X rfl rfl rfl hc i pins s3 σ3 H3 X.xe I3 (stat fr3) st3 go) λr s4 ⟨u,hr,h4⟩=>?_);subst hr;refine D6 hp (Hj h4 λ_ s5 ⟨x,H5,I5,r5,y5,st5,fr5⟩=>?_);have I5':=I5.pinned (stat fr5) (T.obj _ _ st5);refine D6 hp (Hj (hg _ s5 σ3 H5 x u _ I5' r5 (step x H5 y5)) λ_ s6 ⟨σ6,H6,I6,q6⟩=>?_);refine D6 hp (Hj (hb _ s6 σ6 H6 _ I6 q6) λf s7 q7=>?_);have again:∀{σ7:St}{H7:Hp},Inv X (pins++IN fp s5.heap) σ7 H7 s7→N σ7 H7→∃m,m<n∧∃i σ' H',Inv X pins σ' H' s7∧tn i s7.heap∧(∀b∈fp,H' b=none)∧W i m σ' H':=λ{σ7 H7}I7 n7=>by
    obtain⟨m',hm,w7⟩:=hN σ7 H7 n7;refine⟨m',hm,i+1,σ7,H7,I7.unpinned,T.keep _ _ _ st5 λb hb o e=>(I7.pin (b,o) (Aj _ (Aj _ (Jt hb e)))).1,λb hb=>?_,w7⟩;obtain⟨o,e,d⟩:=T.obj _ _ st5 b hb;exact(I7.pin (b,o) (Aj _ (Aj _ (Jt hb e)))).2.1
   cases f with
   | next=>obtain⟨σ7,H7,I7,n7⟩:=q7;exact again I7 n7
   | cont=>obtain⟨σ7,H7,I7,n7⟩:=q7;exact again I7 n7
   | brk=>obtain⟨σ7,H7,I7,q7⟩:=q7;exact⟨σ7,H7,I7.unpinned,q7⟩
   | ret v=>obtain⟨x7,σ7,H7,I7,r7,q7⟩:=q7;exact⟨x7,σ7,H7,I7.unpinned,r7,q7⟩
end
theorem Nb{xs:List V}{g:TG}{tb:TS}{D:Ends}{σ:St}{H:Hp}(Pv:Nat→St→Hp→Prop)(h0:Pv 0 σ H)(hl:∀i σ H,i≤xs.length→Pv i σ H→SqL K H a xs)
 (hs:∀i x σ H,xs[i]?=some x→Pv i σ H→g x σ H λσ2 H2=>tb {D with nx:=Pv (i+1),ct:=Pv (i+1),bk:=D.nx} σ2 H2) (hd:∀σ H,Pv xs.length σ H→D.nx σ H):
 ∃W:Nat→Nat→St→Hp→Prop,(∃m,W 0 m σ H)∧∀i m σ H,W i m σ H→
  ((JJ K a).stop i H∧D.nx σ H)∨((JJ K a).go i H∧∃N:St→Hp→Prop,(∀σ' H',N σ' H'→∃m',m'<m∧W (i+1) m' σ' H')∧∀x H',(JJ K a).yld i H x H'→g x σ H' λσ2 H2=>tb {D with nx:=N,ct:=N,bk:=D.nx} σ2 H2):=by
 refine⟨λi m σ H=>m=xs.length - i∧i≤xs.length∧Pv i σ H,⟨xs.length,by simp,Bo _,h0⟩,?_⟩;rintro i m σ H ⟨rfl,hi,p⟩;have q:=hl i σ H hi p;by_cases hlt:i<xs.length
 · refine .inr ⟨⟨xs,xs[i],q,by simp[hlt]⟩,Pv (i+1),λσ' H' p'=>⟨xs.length - (i+1),by omega,rfl,hlt,p'⟩,λx H' y=>?_⟩;obtain⟨e,y⟩:=y;subst e;exact hs i x σ _ (y xs q) p
 · have e:i=xs.length:=by omega
   subst e;exact .inl ⟨⟨xs,q,Ag _⟩,hd σ H p⟩
theorem Ob{xs:List V}{g:TG}{tb:TS}{D:Ends}{σ:St}{H:Hp}(Pv:Nat→St→Hp→Prop)(h0:Pv 0 σ H)(hl:∀i σ H,i≤xs.length→Pv i σ H→SqT K H a xs)
 (hs:∀i x σ H,xs[i]?=some x→Pv i σ H→g x σ H λσ2 H2=>tb {D with nx:=Pv (i+1),ct:=Pv (i+1),bk:=D.nx} σ2 H2) (hd:∀σ H,Pv xs.length σ H→D.nx σ H):
 ∃W:Nat→Nat→St→Hp→Prop,(∃m,W 0 m σ H)∧∀i m σ H,W i m σ H→
  ((Ko K a).stop i H∧D.nx σ H)∨((Ko K a).go i H∧∃N:St→Hp→Prop,(∀σ' H',N σ' H'→∃m',m'<m∧W (i+1) m' σ' H')∧∀x H',(Ko K a).yld i H x H'→g x σ H' λσ2 H2=>tb {D with nx:=N,ct:=N,bk:=D.nx} σ2 H2):=by
 refine⟨λi m σ H=>m=xs.length - i∧i≤xs.length∧Pv i σ H,⟨xs.length,by simp,Bo _,h0⟩,?_⟩;rintro i m σ H ⟨rfl,hi,p⟩;have q:=hl i σ H hi p;by_cases hlt:i<xs.length
 · refine .inr ⟨⟨xs,xs[i],q,by simp[hlt]⟩,Pv (i+1),λσ' H' p'=>⟨xs.length - (i+1),by omega,rfl,hlt,p'⟩,λx H' y=>?_⟩;obtain⟨e,y⟩:=y;subst e;exact hs i x σ _ (y xs q) p
 · have e:i=xs.length:=by omega
   subst e;exact .inl ⟨⟨xs,q,Ag _⟩,hd σ H p⟩
theorem OH{lo:Int}{n:Nat}{g:TG}{tb:TS}{D:Ends}{σ:St}{H:Hp}(Pv:Nat→St→Hp→Prop)(h0:Pv 0 σ H)
 (hs:∀i σ H,i<n→Pv i σ H→g (.int (lo+i)) σ H λσ2 H2=>tb {D with nx:=Pv (i+1),ct:=Pv (i+1),bk:=D.nx} σ2 H2) (hd:∀σ H,Pv n σ H→D.nx σ H):
 ∃W:Nat→Nat→St→Hp→Prop,(∃m,W 0 m σ H)∧∀i m σ H,W i m σ H→
  ((KN lo n).stop i H∧D.nx σ H)∨((KN lo n).go i H∧∃N:St→Hp→Prop,(∀σ' H',N σ' H'→∃m',m'<m∧W (i+1) m' σ' H')∧∀x H',(KN lo n).yld i H x H'→g x σ H' λσ2 H2=>tb {D with nx:=N,ct:=N,bk:=D.nx} σ2 H2):=by
 refine⟨λi m σ H=>m=n - i∧i≤n∧Pv i σ H,⟨n,by simp,Bo _,h0⟩,?_⟩;rintro i m σ H ⟨rfl,hi,p⟩;by_cases hlt:i<n
 · refine .inr ⟨hlt,Pv (i+1),λσ' H' p'=>⟨n - (i+1),by omega,rfl,hlt,p'⟩,λx H' y=>?_⟩;obtain⟨e,y⟩:=y;subst e y;exact hs i σ _ hlt p
 · have e:i=n:=by omega
   subst e;exact .inl ⟨Ag _,hd σ H p⟩
abbrev R2:=V→V→Hp→VK→Prop
def Ie(X:Cx)(f:Value→Value→Sem Value)(r:R2):Prop:=
 ∀(pins:List (Addr×Obj))(s:Shared)(σ:St)(H:Hp)(x y:V)(v u:Value)(Q:VK),Inv X pins σ H s→RelV x v→RelV y u→r x y H Q→
  wpAny (model X.prog X.w) X.A (f v u) (EP X pins σ Q) X.xe s
def J5(X:Cx)(f:Value)(r:List V→Hp→VK→Prop):Prop:=
 ∀(pins:List (Addr×Obj))(s:Shared)(σ:St)(H:Hp)(xs:List V)(us:List Value)(Q:VK),Inv X pins σ H s→Vals xs us→r xs H Q→
  wpAny (model X.prog X.w) X.A (call f us) (EP X pins σ Q) X.xe s
def Ky(r:R2)(ta tb:TE):TE:=λσ H Q=>ta σ H λx H1=>tb σ H1 λy H2=>r x y H2 Q
def rI(C:Int→Int→Prop)(g:Int→Int→V):R2:=λx y H Q=>∃i j,x= .int i∧y= .int j∧C i j∧Q (g i j) H
def Km(g:Int→Int→V):R2:=λx y H Q=>∃i j,x= .int i∧y= .int j∧Q (g i j) H
section
variable{X:Cx}{a b c:Expr}{ta tb tc:TE}
theorem Lu(ha:PE X a ta)(hb:PE X b tb){σ:St}{H:Hp}{R:V→V→Hp→Prop}(I:Inv X pins σ H s)
 (h:ta σ H λx H1=>tb σ H1 λy H2=>R x y H2) {Q:Value→Shared→Prop} {f:Value→Value→Sem Value}
 (hf:∀v u s2 x y H2,Inv X pins σ H2 s2→RelV x v→RelV y u→R x y H2→wpAny (model X.prog X.w) X.A (f v u) Q X.xe s2):
 wpAny (model X.prog X.w) X.A (eval a X.env) (λv s₁=>wpAny (model X.prog X.w) X.A (eval b X.env) (λu s₂=>wpAny (model X.prog X.w) X.A (f v u) Q X.xe s₂) X.xe s₁) X.xe s:=by
 refine Hj (ha pins s σ H _ I h) λv s1 ⟨x,H1,I1,r1,q1⟩=>?_;refine Hj (hb pins s1 σ H1 _ I1 q1) λu s2 ⟨y,H2,I2,r2,q2⟩=>?_;exact hf v u s2 x y H2 I2 r1 r2 q2
theorem Hu{op:Operator}{r:R2}(ho:Ie X (binaryOp op) r)(ha:PE X a ta)(hb:PE X b tb):PE X (.BinOp a op b pos) (Ky r ta tb):=by intro pins s σ H Q I h;exact wpAny_BinOp (Lu ha hb I h λv u s2 x y H2 I2 rx ry q=>ho pins s2 σ H2 x y v u Q I2 rx ry q)
theorem M3{f:Value→Value→Sem Value}{C:Int→Int→Prop}{g:Int→Int→Int}
 (rule:∀(i j:Int)(t u:Tok)(s:Shared)(Q:Value→Shared→Prop)(E:Value→Shared→Prop),C i j→Q (.int (g i j) s.toks) {s with toks:=s.toks+1}→wpAny (model X.prog X.w) X.A (f (.int i t) (.int j u)) Q E s):
 Ie X f (rI C λi j=> .int (g i j)):=by
 intro pins s σ H x y v u Q I rx ry h;obtain⟨i,j,rfl,rfl,hc,q⟩:=h;obtain⟨t,rfl⟩:=rx;obtain⟨t',rfl⟩:=ry;exact rule i j t t' s _ _ hc ⟨.int (g i j),H,I.tok _,⟨_,rfl⟩,q⟩
theorem M0{f:Value→Value→Sem Value}{g:Int→Int→Int}
 (rule:∀(i j:Int)(t u:Tok)(s:Shared)(Q:Value→Shared→Prop)(E:Value→Shared→Prop),Q (.int (g i j) s.toks) {s with toks:=s.toks+1}→wpAny (model X.prog X.w) X.A (f (.int i t) (.int j u)) Q E s):
 Ie X f (Km λi j=> .int (g i j)):=by
 intro pins s σ H x y v u Q I rx ry h;obtain⟨i,j,rfl,rfl,q⟩:=h;obtain⟨t,rfl⟩:=rx;obtain⟨t',rfl⟩:=ry;exact rule i j t t' s _ _ ⟨.int (g i j),H,I.tok _,⟨_,rfl⟩,q⟩
theorem K2{f:Value→Value→Sem Value}{g:Int→Int→Bool}
 (rule:∀(i j:Int)(t u:Tok)(s:Shared)(Q:Value→Shared→Prop)(E:Value→Shared→Prop),Q (.bool (g i j)) s→wpAny (model X.prog X.w) X.A (f (.int i t) (.int j u)) Q E s):
 Ie X f (Km λi j=> .bl (g i j)):=by
 intro pins s σ H x y v u Q I rx ry h;obtain⟨i,j,rfl,rfl,q⟩:=h;obtain⟨t,rfl⟩:=rx;obtain⟨t',rfl⟩:=ry;exact rule i j t t' s _ _ ⟨.bl (g i j),H,I,rfl,q⟩
def CMul(i j:Int):Prop:=(-(2^64)<i∧i<2^64)∨(-(2^64)<j∧j<2^64)
theorem CMul.ok{i j:Int}(h:CMul i j):IntMulOk i j:=by
 rcases h with⟨h1,h2⟩ | ⟨h1,h2⟩
 · exact .of_left (intBits_le_64 h1 h2)
 · exact .of_right (intBits_le_64 h1 h2)
theorem Ip:Ie X (binaryOp .Add) (Km λi j=> .int (i+j)):=M0 λ_ _ _ _ _ _ _ q=>add_int q
theorem Ka:Ie X (binaryOp .Sub) (Km λi j=> .int (i - j)):=M0 λ_ _ _ _ _ _ _ q=>sub_int q
theorem KB:Ie X (binaryOp .Mult) (rI CMul λi j=> .int (i*j)):=M3 λ_ _ _ _ _ _ _ hc q=>mul_int q hc.ok
theorem J_:Ie X (binaryOp .Mod) (rI (λ_ j=>0<j) λi j=> .int (i%j)):=M3 λi j _ _ _ _ _ hc q=>by have h1:(0:Int)<j:=hc;exact mod_int' (by omega) (by rw[Int.fmod_eq_emod_of_nonneg i (by omega)];exact q)
end
def Mv:V→V→Bool
 | .non,.non=>true | .non,.int _=>true | .int _,.non=>true | .non,.bl _=>true | .bl _,.non=>true | .non,.str _=>true | .str _,.non=>true
 | .int _,.int _=>true | .bl _,.bl _=>true | .str _,.str _=>true | .byt _,.byt _=>true
 | .int _,.str _=>true | .str _,.int _=>true | .bl _,.str _=>true | .str _,.bl _=>true
 | _,_=>false
def YH:R2:=λx y H Q=>Mv x y=true∧Q (.bl (decide (x=y))) H
def YG:R2:=λx y H Q=>Mv x y=true∧Q (.bl (!decide (x=y))) H
theorem QH{i j:Int}:decide (V.int i=V.int j)=(i==j):=by rw[Bq];simp
theorem Q5{i j:Bool}:decide (V.bl i=V.bl j)=(i==j):=by rw[Bq];simp
theorem QI{i j:Str}:decide (V.str i=V.str j)=(i==j):=by rw[Bq];simp
theorem QG{i j:Array UInt8}:decide (V.byt i=V.byt j)=(i.toList==j.toList):=by rw[Bq];cases i;cases j;simp
section
variable{X:Cx}{a b c:Expr}{ta tb tc:TE}
theorem Ik{σ:St}{H:Hp}{Q:VK}{k k':Bool}(I:Inv X pins σ H s)(q:Q (.bl k) H)(e:k=k'):EP X pins σ Q (.bool k') s:=by subst e;exact⟨.bl k,H,I,rfl,q⟩
theorem JY:Ie X (BD .Eq) YH:=by
 intro pins s σ H x y v u Q I rx ry h;obtain⟨hs,q⟩:=h;cases x with
 | non=>
  cases rx;cases y with
  | non=>cases ry;exact PySem.EqNone.eq_none_none (Ik I q (by simp))
  | bl j=>cases ry;exact PySem.EqNone.eq_none_bool (Ik I q (by simp))
  | int j=>obtain⟨t',rfl⟩:=ry;exact PySem.EqNone.eq_none_int (Ik I q (by simp))
  | str j=>obtain⟨t',rfl⟩:=ry;exact PySem.EqNone.eq_none_str (Ik I q (by simp))
  | _=>exact absurd (show false=true from hs) Ax
 | bl i=>
  cases rx;cases y with
  | non=>cases ry;exact PySem.EqNone.eq_bool_none (Ik I q (by simp))
  | bl j=>cases ry;exact eq_bool (Ik I q Q5)
  | str j=>obtain⟨t',rfl⟩:=ry;exact PySem.EqMixed.eq_bool_str (Ik I q (by simp))
  | _=>exact absurd (show false=true from hs) Ax
 | int i=>
  obtain⟨t,rfl⟩:=rx;cases y with
  | non=>cases ry;exact PySem.EqNone.eq_int_none (Ik I q (by simp))
  | int j=>obtain⟨t',rfl⟩:=ry;exact eq_int (Ik I q QH)
  | str j=>obtain⟨t',rfl⟩:=ry;exact PySem.EqMixed.eq_int_str (Ik I q (by simp))
  | _=>exact absurd (show false=true from hs) Ax
 | str i=>
  obtain⟨t,rfl⟩:=rx;cases y with
  | non=>cases ry;exact PySem.EqNone.eq_str_none (Ik I q (by simp))
  | bl j=>cases ry;exact PySem.EqMixed.eq_str_bool (Ik I q (by simp))
  | int j=>obtain⟨t',rfl⟩:=ry;exact PySem.EqMixed.eq_str_int (Ik I q (by simp))
  | str j=>obtain⟨t',rfl⟩:=ry;exact eq_str (Ik I q QI)
  | _=>exact absurd (show false=true from hs) Ax
 | byt i=>
  obtain⟨t,rfl⟩:=rx;cases y with
  | byt j=>obtain⟨t',rfl⟩:=ry;exact PySem.W.eq_bytes (Ik I q QG)
  | _=>exact absurd (show false=true from hs) Ax
 | _=>cases y<;>exact absurd (show false=true from hs) Ax
theorem MQ:Ie X (BD .NotEq) YG:=by
 intro pins s σ H x y v u Q I rx ry h;obtain⟨hs,q⟩:=h;cases x with
 | non=>
  cases rx;cases y with
  | non=>cases ry;exact PySem.EqNone.ne_none_none (Ik I q (by simp))
  | bl j=>cases ry;exact PySem.EqNone.ne_none_bool (Ik I q (by simp))
  | int j=>obtain⟨t',rfl⟩:=ry;exact PySem.EqNone.ne_none_int (Ik I q (by simp))
  | str j=>obtain⟨t',rfl⟩:=ry;exact PySem.EqNone.ne_none_str (Ik I q (by simp))
  | _=>exact absurd (show false=true from hs) Ax
 | bl i=>
  cases rx;cases y with
  | non=>cases ry;exact PySem.EqNone.ne_bool_none (Ik I q (by simp))
  | bl j=>cases ry;exact ne_bool (Ik I q (congrArg not Q5))
  | str j=>obtain⟨t',rfl⟩:=ry;exact PySem.EqMixed.ne_bool_str (Ik I q (by simp))
  | _=>exact absurd (show false=true from hs) Ax
 | int i=>
  obtain⟨t,rfl⟩:=rx;cases y with
  | non=>cases ry;exact PySem.EqNone.ne_int_none (Ik I q (by simp))
  | int j=>obtain⟨t',rfl⟩:=ry;exact ne_int (Ik I q (congrArg not QH))
  | str j=>obtain⟨t',rfl⟩:=ry;exact PySem.EqMixed.ne_int_str (Ik I q (by simp))
  | _=>exact absurd (show false=true from hs) Ax
 | str i=>
  obtain⟨t,rfl⟩:=rx;cases y with
  | non=>cases ry;exact PySem.EqNone.ne_str_none (Ik I q (by simp))
  | bl j=>cases ry;exact PySem.EqMixed.ne_str_bool (Ik I q (by simp))
  | int j=>obtain⟨t',rfl⟩:=ry;exact PySem.EqMixed.ne_str_int (Ik I q (by simp))
  | str j=>obtain⟨t',rfl⟩:=ry;exact ne_str (Ik I q (congrArg not QI))
  | _=>exact absurd (show false=true from hs) Ax
 | byt i=>
  obtain⟨t,rfl⟩:=rx;cases y with
  | byt j=>obtain⟨t',rfl⟩:=ry;exact PySem.W.ne_bytes (Ik I q (congrArg not QG))
  | _=>exact absurd (show false=true from hs) Ax
 | _=>cases y<;>exact absurd (show false=true from hs) Ax
theorem LS:Ie X (BD .Lt) (Km λi j=> .bl (decide (i<j))):=K2 λ_ _ _ _ _ _ _ q=>lt_int q
theorem NI:Ie X (BD .LtE) (Km λi j=> .bl (decide (i≤j))):=K2 λ_ _ _ _ _ _ _ q=>le_int q
theorem L1:Ie X (BD .Gt) (Km λi j=> .bl (decide (j<i))):=K2 λ_ _ _ _ _ _ _ q=>gt_int q
theorem TF:Ie X (BD .GtE) (Km λi j=> .bl (decide (j≤i))):=K2 λ_ _ _ _ _ _ _ q=>ge_int q
theorem RY:Ie X (BD .Lt) (λx y H Q=>∃i j,x= .str i∧y= .str j∧Q (.bl (decide (i.cps.toList<j.cps.toList))) H):=by intro pins s σ H x y v u Q I rx ry h;obtain⟨i,j,rfl,rfl,q⟩:=h;obtain⟨t,rfl⟩:=rx;obtain⟨t',rfl⟩:=ry;exact lt_str (Ik I q rfl)
theorem Ih(b:Expr){op:CmpOp}(h:op≠ .In:=by decide)(h2:op≠ .NotIn:=by decide):behindInMarks op b=false:=by
 have e1:(op==CmpOp.In)=false:=by cases op<;>first | rfl | exact absurd rfl h
 have e2:(op==CmpOp.NotIn)=false:=by cases op<;>first | rfl | exact absurd rfl h2
 cases b<;>simp[behindInMarks,e1,e2]
theorem LA{op:CmpOp}{r:R2}(ho:Ie X (BD op) r)(ha:PE X a ta)(hb:PE X b tb)(hm:behindInMarks op b=false):PE X (.Compare a [op] [b] pos) (Ky r ta tb):=by intro pins s σ H Q I h;exact wpAny_Compare1 (Lu ha hb I h λv u s2 x y H2 I2 rx ry q=>ho pins s2 σ H2 x y v u Q I2 rx ry q) hm
def Qf(t:TE):TT:=λσ H Q=>t σ H λx H'=>∃k,x= .bl k∧Q k H'
theorem Io{op:CmpOp}{r:R2}(ho:Ie X (BD op) r)(ha:PE X a ta)(hb:PE X b tb)(hm:behindInMarks op b=false):PT X (.Compare a [op] [b] pos) (Qf (Ky r ta tb)):=by intro pins s σ H Q I h;refine wpAny_isTrue_Compare1 (Hj (ha pins s σ H _ I h) λv s1 ⟨x,H1,I1,r1,q1⟩=>Hj (hb pins s1 σ H1 _ I1 q1) λu s2 ⟨y,H2,I2,r2,q2⟩=> Hj (ho pins s2 σ H2 x y v u _ I2 r1 r2 q2) λc s3 ⟨z,H3,I3,r3,k,e,q3⟩=>?_) hm;subst e;cases r3;exact Bs ⟨H3,I3,q3⟩
def Q0(r r':R2)(ta tb tc:TE):TE:=λσ H Q=>ta σ H λx H1=>tb σ H1 λy H2=>r x y H2 λz H3=>∃k,z= .bl k∧
 (if k=true then tc σ H3 λw' H4=>r' y w' H4 Q else Q (.bl false) H3)
theorem Vl{op op':CmpOp}{r r':R2}(ho:Ie X (BD op) r)(ho':Ie X (BD op') r')(ha:PE X a ta)(hb:PE X b tb)(hc:PE X c tc)
 (hm:lastMarks [op,op'] [b,c]=false:=by with_unfolding_all rfl):PE X (.Compare a [op,op'] [b,c] pos) (Q0 r r' ta tb tc):=by
 intro pins s σ H Q I h;refine Compare_chain (Hj (ha pins s σ H _ I h) λv s1 ⟨x,H1,I1,r1,q1⟩=>chain_link (Hj (hb pins s1 σ H1 _ I1 q1) λu s2 ⟨y,H2,I2,r2,q2⟩=> Hj (ho pins s2 σ H2 x y v u _ I2 r1 r2 q2) λd s3 ⟨z,H3,I3,r3,k,e,q3⟩=>?_)) hm;subst e;cases r3;refine Bs ?_;cases k with
 | false=>exact ite_ff ⟨.bl false,H3,I3,rfl,q3⟩
 | true=>exact ite_tt (chain_last (Hj (hc pins s3 σ H3 _ I3 q3) λw' s4 ⟨z',H4,I4,r4,q4⟩=>ho' pins s4 σ H4 y z' u w' Q I4 r2 r4 q4))
theorem Vp{op op':CmpOp}{r r':R2}(ho:Ie X (BD op) r)(ho':Ie X (BD op') r')(ha:PE X a ta)(hb:PE X b tb)(hc:PE X c tc)
 (hm:lastMarks [op,op'] [b,c]=false:=by with_unfolding_all rfl):PT X (.Compare a [op,op'] [b,c] pos) (Qf (Q0 r r' ta tb tc)):=by
 intro pins s σ H Q I h;refine isTrue_chain (Hj (ha pins s σ H _ I h) λv s1 ⟨x,H1,I1,r1,q1⟩=>test_link (Hj (hb pins s1 σ H1 _ I1 q1) λu s2 ⟨y,H2,I2,r2,q2⟩=> Hj (ho pins s2 σ H2 x y v u _ I2 r1 r2 q2) λd s3 ⟨z,H3,I3,r3,k,e,q3⟩=>?_)) hm;subst e;cases r3;refine Bs ?_;cases k with
 | false=> obtain⟨k',e',q'⟩:=q3;cases e';exact ite_ff ⟨H3,I3,q'⟩
 | true=> refine ite_tt (test_last (Hj (hc pins s3 σ H3 _ I3 q3) λw' s4 ⟨z',H4,I4,r4,q4⟩=>Hj (ho' pins s4 σ H4 y z' u w' _ I4 r2 r4 q4) λd' s5 ⟨z2,H5,I5,r5,k2,e2,q5⟩=>?_));subst e2;cases r5;exact Bs ⟨H5,I5,q5⟩
theorem L7:(Av:Nat)<2^63:=by rw[sizeLine_eq];decide
theorem Np:Ie X (binaryOp .Add) (λx y H Q=>∃i j,x= .str i∧y= .str j∧i.length+j.length≤Av∧Q (.str (i++j)) H):=by intro pins s σ H x y v u Q I rx ry h;obtain⟨i,j,rfl,rfl,hz,q⟩:=h;obtain⟨t,rfl⟩:=rx;obtain⟨t',rfl⟩:=ry;exact add_str (λt' tk=>⟨.str (i++j),H,I.tok _,⟨_,rfl⟩,q⟩) hz
theorem Jy{x:V}(r:Vals [x] us):∃u,us=[u]∧RelV x u:=by
 cases r with
 | cons r1 r2=>cases r2;exact⟨_,rfl,r1⟩
theorem MV{x y:V}(r:Vals [x,y] us):∃u w',us=[u,w']∧RelV x u∧RelV y w':=by
 cases r with
 | cons r1 r2=>
  cases r2 with
  | cons r3 r4=>cases r4;exact⟨_,_,rfl,r1,r3⟩
theorem Oj:J5 X (.builtin "abs") (λxs H Q=>∃i,xs=[.int i]∧Q (.int (if i<0 then -i else i)) H):=by intro pins s σ H xs us Q I r h;obtain⟨i,rfl,q⟩:=h;obtain⟨u,rfl,t,rfl⟩:=Jy r;exact call_abs_int λu tk=>⟨.int (if i<0 then -i else i),H,I.tok _,⟨_,rfl⟩,q⟩
theorem VN(hc:X.calm=true):J5 X (.builtin "min") (λxs H Q=>∃i j,xs=[.int i,.int j]∧Q (.int (if j<i then j else i)) H):=by
 intro pins s σ H xs us Q I r h;obtain⟨i,j,rfl,q⟩:=h;obtain⟨u,w',rfl,⟨t,rfl⟩,⟨t',rfl⟩⟩:=MV r;refine min_two_ints (I.ok.hd hc) λh' tk k=>⟨_,H,I.kept k,?_,q⟩;by_cases hj:j<i
 · rw[if_pos hj,if_pos hj];exact⟨_,rfl⟩
 · rw[if_neg hj,if_neg hj];exact⟨_,rfl⟩
end
structure ObjM(h:Heap)(x dx C:Addr)(mA:Str→Option Value):Prop where
 obj:h.get? x=some (Fl C dx)
 ns:h.Ns1 dx mA
 ne:dx≠x
theorem W9{dx:Addr}{mA:Str→Option Value}(n:h.Ns1 dx mA):∃od,h.get? dx=some od∧∀name,F6 name od=some (mA name):=by
 obtain⟨o,es,ep,ho,hd,hk,_,hm⟩:=n;refine⟨o,ho,λname=>?_⟩;have e:=hm name;unfold nsFind findBy at e;rw[←Array.find?_toList] at e;unfold F6;rw[hd];dsimp only
 split
 · rename_i y q;rw[q] at e;exact congrArg some e
 · rename_i q;rw[q] at e;have a:es.toList.any (·.refKey)=false:=by
    rw[List.any_eq_false];intro y hy;obtain⟨z,t,hkey⟩:=hk y (Array.mem_toList_iff.mp hy);simp[DictEntry.refKey,hkey]
   have a':¬es.toList.any (·.refKey)=true:=by rw[a];exact Ax
   rw[if_neg a'];exact congrArg some e
theorem ObjM.look{x dx C:Addr}{mA:Str→Option Value}(I:ObjM h x dx C mA):∃od,PySem.W.InstAt h x (Fl C dx) C (some od)∧∀name,F6 name od=some (mA name):=
 let⟨od,ho,hl⟩:=W9 I.ns
 ⟨od,⟨I.obj,rfl,rfl,ho⟩,hl⟩
section
variable{x dx C f:Addr}{mA:Str→Option Value}{name:Str}{v:Value}
end
theorem RelO.some_of{v:V}{o:Option Value}(r:RelO (some v) o):∃u,o=some u∧RelV v u:=by
 cases o with
 | none=>exact(show False from r).elim
 | some u=>exact⟨u,rfl,r⟩
section
variable{H H':Hp}{h':Heap}{C dx:Addr}{fs fs':List (Str×V)}
theorem UH(hok:HOk P w H h)(e:H a=some (.ins C dx fs)):∃mA,ObjM h a dx C mA∧(∀f,RelO (fs.lookup f) (mA f))∧PySem.Within mA (fs.map (·.1))∧fs.length≤1000∧H dx=some (.own a):=by obtain⟨d,z,ne,ob,mA,n,r,q⟩:=(show ObjOk P w H h a (.ins C dx fs) from hok a _ e);exact⟨mA,⟨ob,n,ne⟩,r,q,z,d⟩
end
structure Cls(K:Ai)(C:Addr):Prop where
 pg:PySem.W.plainGet K C Str.empty=true
 hd:PySem.W.hasDictIn K C=true
 po:PySem.W.plainOver K C=true
 sa:PySem.W.findIn K (.ref C) "__setattr__"=some (some (.builtin "object.__setattr__"))
theorem Cls.get{C:Addr}(c:Cls K C)(f:Str):PySem.W.plainGet K C f=true:=c.pg
section
variable{X:Cx}{σ:St}{H:Hp}{C dx:Addr}{fs:List (Str×V)}{f:Str}{v:V}
end
section
variable{X:Cx}{o value:Expr}{f:Str}{pos' tpos:Pos}{ta tv:TE}
end
section
variable{X:Cx}{σ:St}{H:Hp}{Q:Value→Shared→Prop}{c:Value}{b:Bool}
inductive TyOf(K:Ai)(H:Hp):V→Value→Prop where
 | non:TyOf K H .non (.type "NoneType")
 | bl (x:Bool):TyOf K H (.bl x) (.type "bool")
 | int (i:Int):TyOf K H (.int i) (.type "int")
 | str (x:Str):TyOf K H (.str x) (.type "str")
 | flt (x:UInt64):TyOf K H (.flt x) (.type "float")
 | lst {a:Addr} {xs:List V} (e:H a=some (.lst xs)):TyOf K H (.ref a) (.type "list")
 | frz {a:Addr} {o:Obj} {xs:List V} (e:H a=some (.frz o (.lst xs))):TyOf K H (.ref a) (.type "list")
 | tup {a:Addr} {xs:List V} (e:H a=some (.tup xs)):TyOf K H (.ref a) (.type "tuple")
 | dK {a:Addr} {kvs:List (HD×V)} (e:H a=some (.dK kvs)):TyOf K H (.ref a) (.type "dict")
 | dT {a:Addr} {kvs:List (List HD×V)} (e:H a=some (.dT kvs)):TyOf K H (.ref a) (.type "dict")
 | ins {a C dx:Addr} {fs:List (Str×V)} (e:H a=some (.ins C dx fs)) (cl:Cls K C) (ha:PySem.W.findIn K (.ref C) "__class__"=some (some (.builtin "object.__class__")))
  (hn:PySem.W.specialIn K (.builtin "object.__class__") "__get__"=some (some (.builtin "getset_descriptor.__get__"))) (htk:PySem.W.takesIn K (.builtin "object.__class__")=some true)
  (hm:PySem.W.mroIn K C (.type "object")=some true):TyOf K H (.ref a) (.ref C)
theorem VB{x:V}{t:Value}(I:Inv X pins σ H s)(rx:RelV x u)(ty:TyOf X.K H x t)(e:PySem.W.kitOne X.K t c=some b)(h:∀tk,Q (.bool b) {s with toks:=tk}):
 wpAny (model X.prog X.w) A (call (.builtin "isinstance") [u,c]) Q E s:=by
 cases ty with
 | non=>cases(show u=Value.none from rx);exact BQ PySem.W.kitx_none I.kIn True.intro e (λz=>nomatch z) h
 | bl y=>cases(show u=Value.bool y from rx);exact BQ PySem.W.kitx_bool I.kIn True.intro e (λz=>nomatch z) h
 | int i=>obtain⟨t,q⟩:=(show ∃t,u=Value.int i t from rx);cases q;exact BQ PySem.W.kitx_int I.kIn True.intro e (λz=>nomatch z) h
 | str y=>obtain⟨t,q⟩:=(show ∃t,u=Value.str y t from rx);cases q;exact BQ PySem.W.kitx_str I.kIn True.intro e (λz=>nomatch z) h
 | flt y=>obtain⟨t,q⟩:=(show ∃t,u=Value.float y t from rx);cases q;exact BQ PySem.W.kitx_float I.kIn True.intro e (λz=>nomatch z) h
 | @lst a xs ea=> cases(show u=Value.ref a from rx);obtain⟨_,_,n,_,h1⟩:=(show ObjOk X.prog X.w H s.heap a (.lst xs) from I.hok a _ ea);exact BQ PySem.W.kitx_list I.kIn ⟨_,h1,rfl⟩ e (λz=>nomatch z) h
 | @frz a ob xs ea=> cases(show u=Value.ref a from rx);obtain⟨_,_,_,n,_,h1⟩:=(show ObjOk X.prog X.w H s.heap a (.frz ob (.lst xs)) from I.hok a _ ea);exact BQ PySem.W.kitx_list I.kIn ⟨_,h1,rfl⟩ e (λz=>nomatch z) h
 | @tup a xs ea=> cases(show u=Value.ref a from rx);obtain⟨_,_,_,p⟩:=(show ObjOk X.prog X.w H s.heap a (.tup xs) from I.hok a _ ea);obtain⟨o,h1,h2,_⟩:=p;exact BQ PySem.W.kitx_tuple I.kIn ⟨o,h1,h2⟩ e (λz=>nomatch z) h
 | @dK a kvs ea=> cases(show u=Value.ref a from rx);obtain⟨_,_,vs,_,p⟩:=(show ObjOk X.prog X.w H s.heap a (.dK kvs) from I.hok a _ ea);obtain⟨o,es,ep,h1,h2,_⟩:=p;exact BQ PySem.W.kitx_dict I.kIn ⟨o,h1,h2.1⟩ e (λz=>nomatch z) h
 | @dT a kvs ea=> cases(show u=Value.ref a from rx);obtain⟨_,_,xs,_,o,es,ep,h1,h2,_⟩:=(show ObjOk X.prog X.w H s.heap a (.dT kvs) from I.hok a _ ea);exact BQ PySem.W.kitx_dict I.kIn ⟨o,h1,h2.1⟩ e (λz=>nomatch z) h
 | @ins a C dx fs ea cl ha hn htk hm=> cases(show u=Value.ref a from rx);obtain⟨mA,O,_⟩:=UH I.hok ea;obtain⟨od,J,_⟩:=O.look;exact BQ (PySem.W.kitx_own (cl.get _) cl.hd ha hn htk hm) I.kIn J e (λz=>nomatch z) h
end
structure Room(k:Nat)(A:Cy):Prop where
 hd:A.handled=none
 dp:A.depth+3*k+5<recursionLimit
 un:A.units+16*k+200<cLine
 gd:A.guards=some []
theorem Room.mono{j k:Nat}(r:Room k A)(h:j≤k):Room j A:=⟨r.hd,by have:=r.dp;omega,by have:=r.un;omega,r.gd⟩
theorem Room.deeper{k:Nat}(r:Room (k+1) A)(env:Env):Room k (A.deeper env):=
 ⟨r.hd,by have:=r.dp;show A.depth+1+3*k+5<_;omega,by have:=r.un;show A.units+3+16*k+200<_;omega,r.gd⟩
theorem Room.depth{k:Nat}(r:Room k A):A.depth<recursionLimit:=by have:=r.dp;omega
theorem Room.units{k:Nat}(r:Room k A):A.units+64<cLine:=by have:=r.un;omega
def Kz:TA:=λ_ H Q=>Q [] H
def L3(ta:TE)(tr:TA):TA:=λσ H Q=>ta σ H λx H1=>tr σ H1 λxs H2=>Q (x::xs) H2
section
variable{X:Cx}{es:List Expr}{te:TE}{t:TA}
theorem Hg:PA X [] Kz:=λ_ _ _ _ H Q I h=>EN ⟨[],H,I,.nil,h⟩
theorem Hf(ha:PE X e te)(hr:PA X es t)(hs:AL (e::es) X.env=(false,eval e X.env)::AL es X.env:=by rfl):PA X (e::es) (L3 te t):=by intro pos pins s σ H Q I h;rw[hs];show wpAny _ _ (spliced ((false,eval e X.env)::backTo pos (AL es X.env))) _ _ s;refine DD (Hj (ha pins s σ H _ I h) λu s1 ⟨x,H1,I1,r1,q1⟩=>?_);exact Hj (hr pos pins s1 σ H1 _ I1 q1) λus s2 ⟨xs,H2,I2,r2,q2⟩=>⟨x::xs,H2,I2,.cons r1 r2,q2⟩
def Lm(t:TA):TE:=λσ H Q=>t σ H λxs H1=>xs.length≤Av∧∀p,H1 p=none→Q (.ref p) (Hh H1 p (.tup xs))
def Pf(t:TA):TE:=λσ H Q=>t σ H λxs H1=>xs.length≤Av∧∀p,H1 p=none→Q (.ref p) (Hh H1 p (.lst xs))
theorem Ir{x1}(h:PA X es t):PE X (.Tuple es x1 pos) (Lm t):=by intro pins s σ H Q I hq;refine wpAny_Tuple_spliced (Hj (h pos pins s σ H _ I hq) λus s1 ⟨xs,H1,I1,r,z,q⟩=>⟨by rw[←r.length];exact z,?_⟩);have hf:H1 s1.heap.objs.size=none:=I1.hok.fresh (Ag _);refine⟨.ref s1.heap.objs.size,Hh H1 s1.heap.objs.size (.tup xs),I1.laid (t':=s1.toks) (λb u e=>Ad _ e) (Ag _) ?_,rfl,q _ hf⟩;exact⟨z,us,r,⟨_,Ao _ rfl,rfl,rfl,_,rfl⟩⟩
theorem Je(h:PA X es t):PE X (.List es pos) (Pf t):=by intro pins s σ H Q I hq;refine wpAny_List_spliced (Hj (h pos pins s σ H _ I hq) λus s1 ⟨xs,H1,I1,r,z,q⟩=>⟨by rw[←r.length];exact z,?_⟩);have hf:H1 s1.heap.objs.size=none:=I1.hok.fresh (Ag _);refine⟨.ref s1.heap.objs.size,Hh H1 s1.heap.objs.size (.lst xs),I1.laid (t':=s1.toks) (λb u e=>Ad _ e) (Ag _) ?_,rfl,q _ hf⟩;exact⟨z,us,0,r,Ao _ rfl⟩
end
abbrev Sp:=List V→Hp→VK→XK→Prop
abbrev JT:=List Env→Hp→Shared→XK→Value→Shared→Prop
structure Env0(P:Bt)(w:World)(K:Ai)(mg:Str→Option Value)(base:Heap)(A:Cy)(outer:List Env)(s:Shared)(H:Hp):Prop where
 frames:A.frames=some outer
 mod:Mod K mg base
 bs:∀b o,base.get? b=some o→s.heap.get? b=some o∧H b=none
 bsz:base.objs.size≤s.heap.objs.size
 funs:s.heap.FunFrames base outer
 frf:∀b∈JQ outer,H b=none
 hok:HOk P w H s.heap
 bare:AllBare s.gens
def CE(outer:List Env)(P:Bt)(w:World)(H:Hp)(s:Shared)(Q:VK)(u:Value)(s':Shared):Prop:=
 ∃v H',s'.os=s.os∧AllBare s'.gens∧Un (JQ outer) [] H H' s.heap s'.heap∧HOk P w H' s'.heap∧RelV v u∧Q v H'
def CR(CX:JT)(outer:List Env)(P:Bt)(w:World)(H:Hp)(s:Shared)(Q:VK)(E:XK)(r:Result)(s':Shared):Prop:=
 match r with
 | .ok (.ret u)=>CE outer P w H s Q u s'
 | .ok _=>False
 | .error e=>CX outer H s E e s'
structure FnOk(P:Bt)(w:World)(K:Ai)(mg:Str→Option Value)(base:Heap)(CX:JT)(k:Nat)(f:Addr)(fd:BA)(ps:List Str)(sp:Sp):Prop where
 len:∀vs H Q E,sp vs H Q E→vs.length=ps.length
 run:∀(A:Cy)(outer:List Env)(s:Shared)(H:Hp)(args:Args)(us:List Value)(vs:List V)(Q:VK)(E:XK),Room k A→Env0 P w K mg base A outer s H→BindsTo s fd args (ps.zip us)→Vals vs us→sp vs H Q E→
  codeAny (model P w) A (.call (.ref f) args) (CR CX outer P w H s Q E) s
section
variable{X:Cx}{σ:St}{H:Hp}{s':Shared}
theorem Inv.env0(I:Inv X pins σ H s):Env0 X.prog X.w X.K X.mg X.base X.A X.stack s H:=
 ⟨I.ok.frames,I.ok.mod,I.bs,AT I.ok.bsz I.sz,I.stack,I.stkFree,I.hok,I.bare⟩
theorem Inv.after{Q:VK}(I:Inv X pins σ H s)(h:CE X.stack X.prog X.w H s Q u s'):EP X pins σ Q u s':=by obtain⟨v,H',os,bare,un,hok,r,q⟩:=h;obtain⟨hh,g,d,t,os'⟩:=s';obtain rfl:os'=s.os:=os;exact⟨v,H',I.call (h':=hh) (g':=g) (d':=d) (t':=t) (ch:=[]) un hok bare (λb z=>absurd z (by simp)),r,q⟩
end
def NM(sp:Sp)(dvs:List V)(E:XK)(t:TA):TE:=λσ H Q=>t σ H λvs H1=>sp (vs++dvs) H1 Q E
def Binds(K:Ai)(fd:BA)(ps:List Str)(ds:List Value):Prop:=
 ∀(s:Shared)(us:List Value),K.In s.heap→(us++ds).length=ps.length→BindsTo s fd ⟨us,[]⟩ (ps.zip (us++ds))
theorem Binds.all{fd:BA}{ps:List Str}(h:∀us:List Value,us.length=ps.length→bindArgs fd ⟨us,[]⟩=pure (ps.zip us)):Binds K fd ps []:=λs us _ hl=>by rw[Ch] at hl ⊢;exact .of_eq (h us hl)
def NP(CX:JT)(X:Cx)(E:XK):Prop:=∀(pins:List (Addr×Obj))(σ:St)(H:Hp)(s:Shared)(e:Value)(s':Shared),Inv X pins σ H s→CX X.stack H s E e s'→X.xe e s'
section
variable{X:Cx}{CX:JT}{k:Nat}{f C:Addr}{fd:BA}{ps:List Str}{sp:Sp}{dvs:List V}{ds:List Value}{E:XK}{x m:Str}{p apos:Pos}{o:Expr}{es:List Expr}{ta:TE}{t:TA}
theorem UP{pins:List (Addr×Obj)}{σ:St}{H:Hp}{s:Shared}{Q:VK}{us:List Value}{vs:List V}(F:FnOk X.prog X.w X.K X.mg X.base CX k f fd ps sp)(hr:Room k X.A)(hb:Binds X.K fd ps ds)(hd:Vals dvs ds)(hx:NP CX X E)
 (I:Inv X pins σ H s) (r:Vals vs us) (h:sp (vs++dvs) H Q E):wpAny (model X.prog X.w) X.A (call (.ref f) us) (EP X pins σ Q) X.xe s:=by
 have r2:Vals (vs++dvs) (us++ds):=r.append hd;have hl:(us++ds).length=ps.length:=by rw[←r2.length];exact F.len _ _ _ _ h
 refine wpAny_call (Cm (F.run X.A X.stack s H ⟨us,[]⟩ (us++ds) (vs++dvs) Q E hr I.env0 (hb s us I.kIn hl) r2 h) λr s' hq=>?_);cases r with
 | error e=>exact hx pins σ H s e s' I hq
 | ok fl=>
  cases fl with
  | ret u=>exact I.after hq
  | next=>exact Dc hq
  | brk=>exact Dc hq
  | cont=>exact Dc hq
theorem QX(F:FnOk X.prog X.w X.K X.mg X.base CX k f fd ps sp)(hr:Room k X.A)(hg:Gl X x)(hm:X.mg x=some (.ref f))(hk:Df X.K (.ref f)=true)(hb:Binds X.K fd ps ds)(hd:Vals dvs ds)(hx:NP CX X E)
 (ha:PA X (e::es) t) (hdb:(x==("__debug__":Str))=false:=by decide) (he:AL (e::es) X.env=(false,eval e X.env)::AL es X.env:=by rfl) (hpl:(backTo pos (AL es X.env)).any (·.1)=false:=by rfl):
 PE X (.Call (.Name x p) (e::es) [] pos) (NM sp dvs E t):=by
 intro pins s σ H Q I h;refine BU (Rg I hg hm ?_ hdb);refine PySem.W.callWith_K (h₀:=X.base) I.ok.mod.kin hk (Hj (ha pos pins s σ H _ I h) λus s1 ⟨vs,H1,I1,r,q⟩=>⟨I1.kIn,?_⟩) he hpl;exact UP F hr hb hd hx I1 r q
end
def PK(X:Cx)(kws:List Keyword)(t:TA):Prop:=
 ∀(pos:Pos)(pins:List (Addr×Obj))(s:Shared)(σ:St)(H:Hp)(Q:List V→Hp→Prop),Inv X pins σ H s→t σ H Q→wpAny (model X.prog X.w) X.A (evalAll ((backToKw pos (keywordEach kws X.env)).map (·.2))) (AP X pins σ Q) X.xe s
section
variable{X:Cx}{CX:JT}{k:Nat}{f C:Addr}{fd:BA}{ps ks:List Str}{sp:Sp}{E:XK}{x m:Str}{p apos kpos:Pos}{o:Expr}{es:List Expr}{kws:List Keyword}{te ta:TE}{t tk:TA}{nm:Option Str}
theorem Qp:PK X [] Kz:=λ_ _ _ _ H Q I h=>wpAny_evalAll_nil ⟨[],H,I,.nil,h⟩
theorem Q_(ha:PE X e te)(hr:PK X kws t):PK X (⟨nm,e,kpos⟩::kws) (L3 te t):=by
 intro pos pins s σ H Q I h;show wpAny _ _ (evalAll ((do let v ←eval e X.env;standAt pos;pure v)::(backToKw pos (keywordEach kws X.env)).map (·.2))) _ _ s
 refine wpAny_evalAll_cons (Aa (Hj (ha pins s σ H _ I h) λu s1 ⟨x,H1,I1,r1,q1⟩=>Aa (Bm (Ac ?_))));exact Hj (hr pos pins s1 σ H1 _ I1 q1) λus s2 ⟨xs,H2,I2,r2,q2⟩=>⟨x::xs,H2,I2,.cons r1 r2,q2⟩
structure KBinds(K:Ai)(fd:BA)(ps ks:List Str)(g:List Value→List Value→List Value)(gV:List V→List V→List V):Prop where
 to:∀(s:Shared)(us ws:List Value),K.In s.heap→(g us ws).length=ps.length→BindsTo s fd ⟨us,ks.zip ws⟩ (ps.zip (g us ws))
 rel:∀{vs:List V}{us:List Value}{zs:List V}{ws:List Value},Vals vs us→Vals zs ws→Vals (gV vs zs) (g us ws)
variable{g:List Value→List Value→List Value}{gV:List V→List V→List V}
end
structure FnScope(N P:List Str)(sc:Scope):Prop where
 kind:sc.kind= .function
 co:sc.isCoroutine=false
 gen:sc.isGenerator=false
 nd:N.Nodup
 pre:N.take P.length=P
 par:∀x∈P,sc.names.lookup x=some .local∨sc.names.lookup x=some .cell
 nofree:∀y∈sc.names,y.2≠ .free
theorem RD{kindOf:Str→Option NameKind}{x:Str}:∀{binds:List (Str×Value)}{m:Str→Option Value},(∀v,(x,v) ∉ binds)→bindL kindOf binds m x=m x
 | [],_,_=>rfl
 | (n,v)::r,m,h=>by
  unfold bindL;rw[RD λw hw=>h w (AE _ hw)]
  split
  · have:x≠n:=by rintro rfl;exact h v AD
    simp[this]
  · rfl
theorem RB{kindOf:Str→Option NameKind}{x:Str}:∀{binds:List (Str×Value)}{m:Str→Option Value},(∀v,(x,v) ∉ binds)→bindC kindOf binds m x=m x
 | [],_,_=>rfl
 | (n,v)::r,m,h=>by
  unfold bindC;rw[RB λw hw=>h w (AE _ hw)]
  split
  · rfl
  · have:x≠n:=by rintro rfl;exact h v AD
    simp[this]
theorem RC{kindOf:Str→Option NameKind}{x:Str}{v:Value}:∀{P:List Str}{vs:List Value}{i:Nat}{m:Str→Option Value},P.Nodup→P[i]?=some x→vs[i]?=some v→kindOf x=some .local→
 bindL kindOf (P.zip vs) m x=some v
 | [],_,_,_,_,h,_,_=>by simp at h
 | _::_,[],_,_,_,_,h,_=>by simp at h
 | p::P,w::vs,0,m,nd,h1,h2,hk=>by simp at h1 h2;subst h1;subst h2;show bindL kindOf ((p,w)::P.zip vs) m p=_;unfold bindL;rw[RD λv hv=>(D7.mp nd).1 (Fn hv).1,if_pos hk];simp
 | p::P,w::vs,i+1,m,nd,h1,h2,hk=>by show bindL kindOf ((p,w)::P.zip vs) m x=_;unfold bindL;exact RC (i:=i) (D7.mp nd).2 (by simpa using h1) (by simpa using h2) hk
theorem RA{kindOf:Str→Option NameKind}{x:Str}{v:Value}:∀{P:List Str}{vs:List Value}{i:Nat}{m:Str→Option Value},P.Nodup→P[i]?=some x→vs[i]?=some v→kindOf x≠some .local→
 bindC kindOf (P.zip vs) m x=some v
 | [],_,_,_,_,h,_,_=>by simp at h
 | _::_,[],_,_,_,_,h,_=>by simp at h
 | p::P,w::vs,0,m,nd,h1,h2,hk=>by simp at h1 h2;subst h1;subst h2;show bindC kindOf ((p,w)::P.zip vs) m p=_;unfold bindC;rw[RB λv hv=>(D7.mp nd).1 (Fn hv).1,if_neg hk];simp
 | p::P,w::vs,i+1,m,nd,h1,h2,hk=>by show bindC kindOf ((p,w)::P.zip vs) m x=_;unfold bindC;exact RA (i:=i) (D7.mp nd).2 (by simpa using h1) (by simpa using h2) hk
def Kr(N:List Str)(vs:List V):St:=vs.map some++BF (N.length - vs.length) none
def J4(CX:JT)(P:Bt)(w:World)(K:Ai)(mg:Str→Option Value)(base:Heap)(N:List Str)(qual:Str)(scope:Scope)(f:Addr)(cd:Value)(A:Cy)(outer:List Env)(s:Shared)(H:Hp)(E:XK):Cx where
 prog:=P
 w:=w
 K:=K
 mg:=mg
 base:=base
 A:=A.deeper (envOfC qual scope s.heap.objs.size f cd)
 N:=N
 s₀:=s
 H₀:=H
 env:=envOfC qual scope s.heap.objs.size f cd
 outer:=outer
 stack:=envOfC qual scope s.heap.objs.size f cd::outer
 ex:=[]
 calm:=true
 fn:=λ_=>true
 pn:=[]
 xe:=λe s'=>wpAny (model P w) (A.deeper (envOfC qual scope s.heap.objs.size f cd)) (leaving (envOfC qual scope s.heap.objs.size f cd) e) (λ_ s''=>CX outer H s E e s'') (λe' s''=>CX outer H s E e' s'') s'
theorem Rm{sc:Scope}{x:Str}(h:sc.names.lookup x=some .cell):∃c,(BV n sc.names []).lookup x=some c:=by have q:=CM sc.names n [] (.inl h);exact EX.mp q
theorem VA{CX:JT}{P:Bt}{w:World}{K:Ai}{mg:Str→Option Value}{base:Heap}{N ps:List Str}{qual:Str}{scope:Scope}{f:Addr}{cd:Value}{A:Cy}{outer:List Env}{s s1:Shared}{H:Hp}{E:XK}{us:List Value}{vs:List V}
 (S:FnScope N ps scope) (hd:A.handled=none) (e0:Env0 P w K mg base A outer s H) (hl:vs.length=ps.length) (r:Vals vs us)
 (x:InCallC s s.heap.objs.size (bindL (envOfC qual scope s.heap.objs.size f cd).kindOf (ps.zip us) λ_=>none) (BV (s.heap.objs.size+1) scope.names []) (bindC (envOfC qual scope s.heap.objs.size f cd).kindOf (ps.zip us) λ_=>none) s1):
 Inv (J4 CX P w K mg base N qual scope f cd A outer s H E) [] (Kr N vs) H s1:=by
 have hpl:ps.length≤N.length:=by have:=congrArg Be S.pre;rw[A5] at this;omega
 obtain⟨h1,tk,rfl,hk⟩:=x.done;have noA:∀b:Addr,b ∉ (J4 CX P w K mg base N qual scope f cd A outer s H E).ex:=λb z=>absurd (show b∈([]:List Addr) from z) (by simp);refine⟨⟨e0.mod,S.kind,rfl,rfl,Ag _,λy z c h1 h2=>?_,λy hy=>?_,λy c _ h=>?_,λ_=>hd,Around.frames_deeper e0.frames,.inr ⟨rfl,rfl⟩,λb z=>absurd z (noA b),e0.bs,e0.bsz,λb _ _=>noA b,λb z=>absurd z (noA b),e0.funs,e0.frf⟩,
  rfl,e0.bare,Un.kept hk,⟨_,x.toInCall.ns,λi y v h1 h2 h3=>?_⟩,λy c h=>⟨_,x.cell y c h⟩,e0.hok.fresh (Ag _),λy c h=>?_,λp hp=>absurd (show p∈([]:List (Addr×Obj)) from hp) (by simp),e0.hok.kept hk,?_⟩
 · exact name_of_addr x.apart (Dn h1) (Dn h2)
 · have hy:scope.names.lookup y=some .cell∨scope.names.lookup y=some .free:=hy;rcases hy with hy | hy
   · exact Rm hy
   · exact absurd rfl (S.nofree _ (Dn hy))
 · exact AU (x.above y c (Dn h))
 · have hi:i<vs.length:=by
    unfold Kr at h2;by_cases hi:i<vs.length
    · exact hi
    · rw[C_ (by simpa using hi)] at h2;rw[List.getElem?_replicate] at h2
      split at h2<;>cases h2
   have ha:vs[i]?=some v:=by
    unfold Kr at h2;rw[ER (by simpa using hi),Af] at h2;cases e:vs[i]? with
    | none=>rw[e] at h2;cases h2
    | some a=>rw[e] at h2;cases h2;rfl
   obtain⟨u,hu,rv⟩:=r.get ha;have hp:ps[i]?=some y:=by rw[←S.pre,List.getElem?_take_of_lt (by omega)];exact h1
   have ndP:ps.Nodup:=by rw[←S.pre];exact S.nd.sublist (List.take_sublist _ _)
   refine⟨u,rv,?_⟩;rcases S.par y (Ak hp) with k | k
   · exact .inl ⟨k,RC ndP hp hu k⟩
   · obtain⟨c,e⟩:=Rm (n:=s.heap.objs.size+1) k;refine .inr ⟨.inl k,c,e,?_⟩;have q:=x.cell y c e;rw[RA ndP hp hu (by show scope.names.lookup y≠_;rw[k];decide)] at q;exact q
 · exact e0.hok.fresh (AU (x.above y c (Dn h)))
 · unfold Kr;show _=N.length;rw[Au,Ab,CW];omega
theorem PR{CX:JT}{P:Bt}{w:World}{K:Ai}{mg:Str→Option Value}{base:Heap}{k:Nat}{f:Addr}{name qual:Str}{params:Arguments}{body:List Stmt}{scope:Scope}{dV kV doc pm cdv ct oc:Value}{an od:Option Addr}
 {osl:Array (Option Value)} {N ps:List Str} {sp:Sp} (lk:K.lookup f=some ⟨oc,od,.func (C8 name qual params body scope dV kV doc pm an cdv ct),osl⟩) (hcd:DL K cdv qual=true) (S:FnScope N ps scope)
 (len:∀vs H Q E,sp vs H Q E→vs.length=ps.length)
 (hbody:∀(A:Cy)(outer:List Env)(s:Shared)(H:Hp)(vs:List V)(Q:VK)(E:XK),Room k (A.deeper (envOfC qual scope s.heap.objs.size f cdv))→sp vs H Q E→
  ∃t,PSs (J4 CX P w K mg base N qual scope f cdv A outer s H E) body t∧t {nx:=λ_ H'=>Q .non H',rt:=Q} (Kr N vs) H):
 FnOk P w K mg base CX (k+1) f (C8 name qual params body scope dV kV doc pm an cdv ct) ps sp:=by
 refine⟨len,λA outer s H args us vs Q E hr e0 hb r hsp=>?_⟩;have hl:=len _ _ _ _ hsp;have KX:K.In s.heap:=e0.mod.kin.keeps λb o e=>(e0.bs b o e).1;have lim:s.heap.NoLimit:=e0.mod.nolimit.keeps λb o e=>(e0.bs b o e).1;have hkind:∀y∈ps.zip us,scope.names.lookup y.1=some .local∨(scope.names.lookup y.1=some .cell∧((BV (s.heap.objs.size+1) scope.names []).lookup y.1).isSome=true):=λ⟨n,v⟩ hy=>by
  rcases S.par n (Fn hy).1 with q | q
  · exact .inl q
  · exact .inr ⟨q,CM _ _ _ (.inl q)⟩
 refine codeAny_call_function hr.depth (KX _ _ lk) rfl S.co S.gen rfl (PySem.W.codeRec_of KX hcd) (hb _ _ _ _ ?_);refine wpAny_newFunctionEnv_cells S.kind hkind λenv he s1 x=>?_;subst he;refine⟨lim.keeps x.toInCall.keep,codeAny_func ?_⟩;obtain⟨t,ht,hq⟩:=hbody A outer s H vs Q E (hr.deeper _) hsp;have I:Inv (J4 CX P w K mg base N qual scope f cdv A outer s H E) [] (Kr N vs) H s1:=VA S hr.hd e0 hl r x;refine AA (ht [] s1 (Kr N vs) H _ I hq) (λfl s' hs=>?_) λe s' hs=>hs;have fin:∀{σ':St}{H':Hp}{v:V}{u:Value},Inv (J4 CX P w K mg base N qual scope f cdv A outer s H E) [] σ' H' s'→RelV v u→Q v H'→CE outer P w H s Q u s':=
  λ{σ' H' v u}J rv q=>⟨v,H',J.os,J.bare,J.base,J.hok,rv,q⟩
 cases fl with
 | ret u=> obtain⟨v,σ',H',J,rv,q⟩:=hs;exact fin J rv q
 | next=> obtain⟨σ',H',J,q⟩:=hs;exact fin (v:=V.non) (u:=Value.none) J rfl q
 | brk=> obtain⟨_,_,_,q⟩:=hs;exact Dc q
 | cont=> obtain⟨_,_,_,q⟩:=hs;exact Dc q
section
variable{X:Cx}{x:Str}{p:Pos}{es:List Expr}{t:TA}{id T:String}{r:List V→Hp→VK→Prop}
def SX(r:List V→Hp→VK→Prop)(t:TA):TE:=λσ H Q=>t σ H λvs H1=>r vs H1 Q
theorem HK(hc:J5 X (.builtin id) r)(hg:Gl X x)(hm:X.mg x=none)(hv:Bd x=some (.builtin id))(ha:PA X (e::es) t)(hn:x≠"__name__":=by decide)(hdb:(x==("__debug__":Str))=false:=by decide)
 (he:AL (e::es) X.env=(false,eval e X.env)::AL es X.env:=by rfl) (hpl:(backTo pos (AL es X.env)).any (·.1)=false:=by rfl):PE X (.Call (.Name x p) (e::es) [] pos) (SX r t):=by
 intro pins s σ H Q I h;refine BU (JZ I hg hm hv ?_ hn hdb);exact Ef (Hj (ha pos pins s σ H _ I h) λus s1 ⟨vs,H1,I1,r1,q1⟩=>hc pins s1 σ H1 vs us Q I1 r1 q1) he hpl
theorem Lf(hc:J5 X (.type T) r)(hg:Gl X x)(hm:X.mg x=none)(hv:Bd x=some (.type T))(ha:PA X (e::es) t)(hn:x≠"__name__":=by decide)(hdb:(x==("__debug__":Str))=false:=by decide)
 (he:AL (e::es) X.env=(false,eval e X.env)::AL es X.env:=by rfl) (hpl:(backTo pos (AL es X.env)).any (·.1)=false:=by rfl):PE X (.Call (.Name x p) (e::es) [] pos) (SX r t):=by
 intro pins s σ H Q I h;refine BU (JZ I hg hm hv ?_ hn hdb);exact BS (Hj (ha pos pins s σ H _ I h) λus s1 ⟨vs,H1,I1,r1,q1⟩=>hc pins s1 σ H1 vs us Q I1 r1 q1) he hpl
end
end L2
variable{H:L2.Hp}{X:L2.Cx}{σ:L2.St}{xs:List L2.V}{x:PySem.Str}
namespace HT
open PySem PyProof.Rows
section
open PySem.SeqAt
open PySem.AutoSeq1 (wpAny_loadPart')
open PySem.MeetsSeq PySem.MeetsSeq2 PySem.MeetsSeq3
end
theorem cat_tup{t:Addr}{vs ws:List Value}{Q:Value→Shared→Prop}(ht:IsTup s.heap t vs.toArray)(hb:IsTup s.heap b ws.toArray)(hv:vs≠[])
 (h1:ws=[]→Q (.ref t) s) (h2:ws≠[]→Q (.ref s.heap.objs.size) {s with heap:=s.heap.push {cls:= .type "tuple",data:= .seq (vs++ws).toArray}})
 (hsz:vs.length+ws.length≤Av):wpAny (model prog w) A (binaryOp .Add (.ref t) (.ref b)) Q E s:=by
 obtain⟨⟨cls,dd,data,sl⟩,ho,hc,n,hd⟩:=id ht;obtain⟨⟨cls2,dd2,data2,sl2⟩,ho2,hc2,n2,hd2⟩:=id hb;simp only at hc hd hc2 hd2;subst hc hd hc2 hd2;have e:vs.toArray++ws.toArray=(vs++ws).toArray:=by simp
 by_cases hw:ws=[]
 · exact concat_meets ⟨_,ho,rfl⟩ ⟨_,ho2,rfl⟩ noFill_tuple_add seq_tuple_add DP DM (DE _ _)
    (tuple_addW1 t b vs.toArray ws.toArray n n2 dd dd2 sl sl2 (by simpa using hv) (by simp[hw])) ⟨ho,ho2,h1 hw⟩
 · refine concat_meets ⟨_,ho,rfl⟩ ⟨_,ho2,rfl⟩ noFill_tuple_add seq_tuple_add DP DM (DE _ _)
    (tuple_addW2 t b vs.toArray ws.toArray n n2 dd dd2 sl sl2 (by simpa using hv) (by simpa using hw) (by rw[Aw,Aw];exact hsz)) ⟨ho,ho2,?_⟩
   rw[e];exact h2 hw
def sIx(n d:Nat):Option Int→Nat
 | none=>d
 | some v=>if v<0 then(v+(n:Int)).toNat else min v.toNat n
theorem sIx_none(n d:Nat):sIx n d none=d:=rfl
theorem sIx_nat(n d k:Nat):sIx n d (some (k:Int))=min k n:=by
 show(if(k:Int)<0 then((k:Int)+(n:Int)).toNat else min (k:Int).toNat n)=min k n
 rw[if_neg (by omega),Bc]
theorem UQ(n d:Nat)(hd:d≤n)(o:Option Int):sIx n d o≤n:=by
 cases o with
 | none=>exact hd
 | some v=>
  show(if v<0 then(v+(n:Int)).toNat else min v.toNat n)≤n
  by_cases hv:v<0
  · rw[if_pos hv];omega
  · rw[if_neg hv];exact Nat.min_le_right _ _
theorem QF(v:Int)(n d:Nat):(if v<0 then max (v+(n:Int)) 0 else min v (n:Int))=((sIx n d (some v):Nat):Int):=by
 show(if v<0 then max (v+(n:Int)) 0 else min v (n:Int))=(((if v<0 then(v+(n:Int)).toNat else min v.toNat n):Nat):Int)
 by_cases hv:v<0
 · simp only[if_pos hv];omega
 · simp only[if_neg hv];omega
theorem Wf(lo hi:Option Int)(n:Nat):D8 lo hi 1 (n:Int)=(((sIx n 0 lo:Nat):Int),((sIx n n hi:Nat):Int)):=by
 have h1:¬((1:Int)<0):=by omega
 unfold D8;simp only[h1,if_false];refine Prod.ext ?_ ?_
 · cases lo with
   | none=>rfl
   | some v=>exact QF v n 0
 · cases hi with
   | none=>rfl
   | some v=>exact QF v n n
theorem WO(i j:Nat):Dd (i:Int) (j:Int) 1=j - i:=by
 unfold Dd;have h1:(1:Int)>0:=by omega
 simp only[h1,if_true,Int.ediv_one]
 split<;>omega
theorem SG{v:Value}{o:Option Int}{Q:Option Int→Shared→Prop}(p:IsPart v o)(h:Q o s):wpAny (model prog w) A (Builtin.Slice.slicePartIndex v) Q E s:=by
 cases p with
 | none=>exact slicePart_none h
 | int i t=>exact slicePart_int h
theorem sliceApplied_gen{sl:Addr}{vl vu:Value}{lo hi:Option Int}{n:Nat}{Q:Int×Int×Nat→Shared→Prop}(hs:s.heap.IsSliceOf sl vl vu .none)(pl:IsPart vl lo)(pu:IsPart vu hi)
 (h:Q (((sIx n 0 lo:Nat):Int),1,sIx n n hi - sIx n 0 lo) s):wpAny (model prog w) A (EE (.ref sl) (pure (n:Int))) Q E s:=by
 obtain⟨os,hos,hcs,hds⟩:=id hs;unfold EE Builtin.Slice.sliceFields;refine Aa (Aa (AS hos hds (x:=vl) rfl (Aa (AS hos hds (x:=vu) rfl (Aa (AS hos hds (x:= .none) rfl (Ac ?_)))))));refine Aa (slicePart_none ?_);show wpAny _ _ (if((1:Int)==0)=true then _ else _) _ _ s
 rw[if_neg (by decide)];refine Aa (SG pl (Aa (SG pu (Aa (Ac ?_)))));show wpAny _ _ (match D8 lo hi 1 (n:Int) with | (lo,hi)=>pure (lo,(1:Int),Dd lo hi 1)) _ _ s
 rw[Wf lo hi n];show wpAny _ _ (pure (((sIx n 0 lo:Nat):Int),(1:Int),Dd ((sIx n 0 lo:Nat):Int) ((sIx n n hi:Nat):Int) 1)) _ _ s;rw[WO];exact Ac h
theorem Vo(xs:Array Value)(i k:Nat):((Bf k).filterMap λ(m:Nat)=>xs[((i:Int)+(m:Int)*1).toNat]?).toArray=((xs.toList.drop i).take k).toArray:=by
 have e:(λ(m:Nat)=>xs[((i:Int)+(m:Int)*1).toNat]?)=λm=>xs[i+m]?:=by
  funext m;have:((i:Int)+(m:Int)*1).toNat=i+m:=by omega
  rw[this]
 rw[e];have:=pick_run xs i k;rw[List.filterMap_map] at this;have e2:((λx=>xs[x]?)∘λx=>i+x)=λm=>xs[i+m]?:=rfl;rw[e2] at this;rw[this]
theorem getItem_tuple_cut{t sl:Addr}{items:Array Value}{vl vu:Value}{lo hi:Option Int}{Q:Value→Shared→Prop}(ht:IsTup s.heap t items)(hs:s.heap.IsSliceOf sl vl vu .none)(pl:IsPart vl lo)(pu:IsPart vu hi)
 (hw:¬(sIx items.size 0 lo=0∧sIx items.size items.size hi=items.size))
 (h:Q (.ref s.heap.objs.size) {s with heap:=s.heap.push {cls:= .type "tuple",data:= .seq ((items.toList.drop (sIx items.size 0 lo)).take (sIx items.size items.size hi - sIx items.size 0 lo)).toArray}})
 (hsz:items.size≤Av):wpAny (model prog w) A (getItem (.ref t) (.ref sl)) Q E s:=by
 have htake:sizeOk (.seq ((items.toList.drop (sIx items.size 0 lo)).take (sIx items.size items.size hi - sIx items.size 0 lo)).toArray):=by show((items.toList.drop (sIx items.size 0 lo)).take (sIx items.size items.size hi - sIx items.size 0 lo)).toArray.size≤Av;rw[Aw,A5,BB,AJ];omega
 have hj:sIx items.size items.size hi≤items.size:=UQ _ _ (Ag _) hi;obtain⟨os,hos,hcs,hds⟩:=id hs;have hTs:s.TypeIs (.ref sl) "slice":=⟨os,hos,hcs⟩;unfold getItem
 try with_reducible refine Bh ?_
 first | refine Aa (Ac ?_) | skip
 refine Aa (EO ht.typeIs (by decide) ?_);refine Aa (AW (name:=Cc "__getitem__") ht.typeIs BE
  (AY BE ht.typeIs entry_tuple_getitem ?_ (args_tuple_getitem _ _)))
 show wpAny _ _ (EF (.ref t)>>=_) _ _ s;refine Aa (tupleItemsOf_ ht ?_);refine Aa (CP hTs ?_);rw[if_pos (by decide)];refine Aa (sliceApplied_gen hs pl pu ?_);have hno:¬((((sIx items.size 0 lo:Nat):Int)==0 && (1:Int)==1 && (sIx items.size items.size hi - sIx items.size 0 lo)==items.size)=true):=by intro q;rw[Ay,Ay] at q;have q1:((sIx items.size 0 lo:Nat):Int)=0:=eq_of_beq q.1.1;have q2:sIx items.size items.size hi - sIx items.size 0 lo=items.size:=eq_of_beq q.2;exact hw ⟨by omega,by omega⟩
 show wpAny _ _ (if(((sIx items.size 0 lo:Nat):Int)==0 && (1:Int)==1 && (sIx items.size items.size hi - sIx items.size 0 lo)==items.size)=true then _ else _) _ _ s
 rw[if_neg hno,Vo]
 first
  | exact Aa (m:=Dg _) (AR (Ac ⟨_,rfl,Ac h⟩) htake)
  | exact Aa (m:=Dg _) (AR (Aa (Ac (Ac ⟨_,rfl,Ac h⟩))) htake)
  | exact Aa (Aa (m:=Dg _) (AR (Ac (Ac ⟨_,rfl,Ac h⟩)) htake))
  | exact Aa (Aa (m:=Dg _) (AR (Ac ⟨_,rfl,Ac h⟩) htake))
end HT
namespace L2
abbrev TO:=St→Hp→(Option Int→Hp→Prop)→Prop
def PO(X:Cx)(e:Option Expr)(t:TO):Prop:=
 ∀(pins:List (Addr×Obj))(s:Shared)(σ:St)(H:Hp)(Q:Option Int→Hp→Prop),Inv X pins σ H s→t σ H Q→
  wpAny (model X.prog X.w) X.A (evalPart e X.env) (λu s'=>∃o H',Inv X pins σ H' s'∧IsPart u o∧Q o H') X.xe s
def LC:TO:=λ_ H Q=>Q none H
def LR(t:TE):TO:=λσ H Q=>t σ H λx H1=>∃i,x= .int i∧Q (some i) H1
section
variable{te:TE}{lo hi:Option Expr}{tl th:TO}{p2:Pos}
theorem I0:PO X none LC:=by intro pins s σ H Q I h;rw[evalPart_none];exact Ac ⟨none,H,I,.none,h⟩
theorem IA(h:PE X e te):PO X (some e) (LR te):=by intro pins s σ H Q I hw;rw[evalPart_some];refine Hj (h pins s σ H _ I hw) λu s1 ⟨x,H1,I1,r1,q1⟩=>?_;obtain⟨i,rfl,q⟩:=q1;obtain⟨t,rfl⟩:=r1;exact⟨some i,H1,I1,.int i t,q⟩
def LL(X:Cx)(r:V→Option Int→Option Int→Hp→VK→Prop):Prop:=
 ∀(pins:List (Addr×Obj))(s:Shared)(σ:St)(H:Hp)(x:V)(v vl vu:Value)(lo hi:Option Int)(sl:Addr)(Q:VK),Inv X pins σ H s→RelV x v→s.heap.IsSliceOf sl vl vu .none→IsPart vl lo→IsPart vu hi→r x lo hi H Q→
  ∃T id,typeLookup (.type T) "__getitem__"=pure (some (.builtin id))∧s.TypeIs v T∧wpAny (model X.prog X.w) X.A (getItem v (.ref sl)) (EP X pins σ Q) X.xe s
def Mt(r:V→Option Int→Option Int→Hp→VK→Prop)(te:TE)(tl th:TO):TE:=λσ H Q=>te σ H λx H1=>tl σ H1 λl H2=>th σ H2 λu H3=>r x l u H3 Q
theorem Iz{r:V→Option Int→Option Int→Hp→VK→Prop}(hr:LL X r)(he:PE X e te)(hl:PO X lo tl)(hu:PO X hi th):PE X (.Subscript e (.Slice lo hi none p2) pos) (Mt r te tl th):=by
 intro pins s σ H Q I h;refine Subscript_ (Hj (he pins s σ H _ I h) λv s1 ⟨x,H1,I1,r1,q1⟩=>?_);refine wpAny_Slice (Hj (hl pins s1 σ H1 _ I1 q1) λvl s2 ⟨l,H2,I2,pl,q2⟩=>Hj (hu pins s2 σ H2 _ I2 q2) λvu s3 ⟨u,H3,I3,pu,q3⟩=>?_);rw[evalPart_none];refine Ac ?_;have I4:Inv X pins σ H3 {s3 with heap:=s3.heap.push {cls:= .type "slice",data:= .fields #[vl,vu,.none]}}:=I3.kept (t':=s3.toks) λb ob q=>Ad _ q
 obtain⟨T,id,hT,ht,hg⟩:=hr pins {s3 with heap:=s3.heap.push {cls:= .type "slice",data:= .fields #[vl,vu,.none]}} σ H3 x v vl vu l u s3.heap.objs.size Q I4 r1 (Heap.IsSliceOf.new ..) pl pu q3;show wpAny (model X.prog X.w) X.A (subscriptTail e (.Slice lo hi none p2) v (.ref s3.heap.objs.size)) (EP X pins σ Q) X.xe {s3 with heap:=s3.heap.push {cls:= .type "slice",data:= .fields #[vl,vu,.none]}};exact tail_any (ops:=[.ref s3.heap.objs.size,v]) ht hT hg (by with_unfolding_all rfl)
def HV(xs:List V)(lo hi:Option Int):List V:=(xs.drop (HT.sIx xs.length 0 lo)).take (HT.sIx xs.length xs.length hi - HT.sIx xs.length 0 lo)
theorem SR(xs:List V)(lo hi:Option Int):(HV xs lo hi).length≤xs.length:=by unfold HV;rw[A5,BB];omega
def Pn(K:Ai):V→Option Int→Option Int→Hp→VK→Prop:=λx lo hi H Q=>∃a xs,x= .ref a∧SqT K H a xs∧
 ¬(HT.sIx xs.length 0 lo=0∧HT.sIx xs.length xs.length hi=xs.length)∧∀p,H p=none→Q (.ref p) (Hh H p (.tup (HV xs lo hi)))
theorem UR:LL X (Pn X.K):=by
 intro pins s σ H x v vl vu lo hi sl Q I rx hs pl pu h;obtain⟨a,xs,rfl,hx,hw,q⟩:=h;cases rx;obtain⟨its,r,ht,hz⟩:=I.tuple hx;have hlen:its.toArray.size=xs.length:=by rw[Aw];exact r.length.symm
 refine⟨"tuple",_,BE.lookup,ht.typeIs,?_⟩;refine HT.getItem_tuple_cut ht hs pl pu (by rw[hlen];exact hw) ?_ (by rw[hlen];exact hz);rw[hlen];refine⟨.ref s.heap.objs.size,_,I.laid (t':=s.toks) (o:= .tup (HV xs lo hi)) (λb ob q=>Ad _ q) (Ag _) ?_,rfl,q _ (I.hok.fresh (Ag _))⟩;exact⟨AT (SR xs lo hi) hz,_,(r.drop (HT.sIx xs.length 0 lo)).take (HT.sIx xs.length xs.length hi - HT.sIx xs.length 0 lo),IsTupP.new _ _⟩
theorem Vals.nil_iff(r:Vals xs us):us=[]↔xs=[]:=by
 cases r with
 | nil=>simp
 | cons _ _=>simp
end
def K5(n:Nat)(i:Int):Option Nat:=if 0≤i then(if i<n then some i.toNat else none) else if -(n:Int)≤i then some (i+n).toNat else none
def Jh{α:Type}(xs:List α)(i:Int):Option α:=(K5 xs.length i).bind λj=>xs[j]?
theorem Oc{i:Int}{j:Nat}(h:K5 n i=some j):seqIndex? i n=some j∧j<n∧ -(n:Int)≤i∧i<n:=by
 unfold K5 at h;by_cases h0:0≤i
 · rw[if_pos h0] at h;by_cases h1:i<n
   · rw[if_pos h1] at h;have e:i.toNat=j:=AB h;exact⟨by rw[seqIndex_of h0 h1,e],by omega,by omega,h1⟩
   · rw[if_neg h1] at h;cases h
 · rw[if_neg h0] at h;by_cases h1: -(n:Int)≤i
   · rw[if_pos h1] at h;have e:(i+n).toNat=j:=AB h;exact⟨by rw[seqIndex_neg (by omega) h1,e],by omega,h1,by omega⟩
   · rw[if_neg h1] at h;cases h
theorem Og{α:Type}{xs:List α}{i:Int}{v:α}(h:Jh xs i=some v):∃j,seqIndex? i xs.length=some j∧xs[j]?=some v∧j<xs.length∧ -(xs.length:Int)≤i∧i<xs.length:=by
 unfold Jh at h;cases e:K5 xs.length i with
 | none=>rw[e] at h;cases h
 | some j=> rw[e] at h;obtain⟨h1,h2,h3,h4⟩:=Oc e;exact⟨j,h1,h,h2,h3,h4⟩
theorem Kd{α:Type}{xs:List α}{j:Nat}{v:α}(h:xs[j]?=some v):Jh xs (j:Int)=some v:=by
 have hj:j<xs.length:=(An.mp h).1;have e:K5 xs.length (j:Int)=some j:=by unfold K5;rw[if_pos (by omega),if_pos (by omega)];simp
 unfold Jh;rw[e];exact h
def U8(b:Expr):Prop:=∀o i,subscripted b false o i=operate [o,i] (getItem o i)
def ML(X:Cx)(r:R2):Prop:=
 ∀(value slice:Expr)(pins:List (Addr×Obj))(s:Shared)(σ:St)(H:Hp)(x y:V)(v u:Value)(Q:VK),Inv X pins σ H s→RelV x v→RelV y u→r x y H Q→
  subscripted slice false v u=operate [v,u] (getItem v u)→wpAny (model X.prog X.w) X.A (subscriptTail value slice v u) (EP X pins σ Q) X.xe s
def Tb(X:Cx)(id:String)(r:V→List V→Hp→VK→Prop):Prop:=
 ∀(pins:List (Addr×Obj))(s:Shared)(σ:St)(H:Hp)(x:V)(xs:List V)(v:Value)(us:List Value)(Q:VK),Inv X pins σ H s→RelV x v→Vals xs us→r x xs H Q→
  wpAny (model X.prog X.w) X.A (call (.builtin id) (v::us)) (EP X pins σ Q) X.xe s
section
variable{a b:Expr}{ta tb:TE}
theorem HW{r:R2}(hr:ML X r)(ha:PE X a ta)(hb:PE X b tb)(hs:U8 b):PE X (.Subscript a b pos) (Ky r ta tb):=by intro pins s σ H Q I h;exact Subscript_ (Lu ha hb I h λv u s2 x y H2 I2 rx ry q=>hr a b pins s2 σ H2 x y v u Q I2 rx ry q (hs _ _))
def Pp(K:Ai):R2:=λx y H Q=>∃p xs i v,x= .ref p∧y= .int i∧SqL K H p xs∧Jh xs i=some v∧Q v H
def My(K:Ai):R2:=λx y H Q=>∃p xs i v,x= .ref p∧y= .int i∧SqT K H p xs∧Jh xs i=some v∧Q v H
def Po:R2:=λx y H Q=>∃z i c,x= .str z∧y= .int i∧z.length≤Av∧Jh z.cps.toList i=some c∧Q (.str ⟨#[c]⟩) H
theorem IV:ML X (Pp X.K):=by
 intro value slice pins s σ H x y v u Q I rx ry h hs;obtain⟨p,xs,i,z,rfl,rfl,hq,he,q⟩:=h;cases rx;obtain⟨t,rfl⟩:=ry;obtain⟨its,r,pl,hz⟩:=I.list hq;obtain⟨j,h1,h2,h3,h4,h5⟩:=Og he;obtain⟨w,ew,rw'⟩:=r.get h2;have hl:=r.length;have hn:=L7;have fin:EP X pins σ Q w s:=⟨z,H,I,rw',q⟩;by_cases h0:0≤i
 · have hj:i.toNat=j:=by
    rw[seqIndex_of h0 h5] at h1;exact AB h1
   exact item_listR pl.isList h0 (by omega) (by rw[hj];simpa using ew) fin hs
 · have hj:(i+(its.toArray.size:Int)).toNat=j:=by
    rw[seqIndex_neg (by omega) h4] at h1;rw[Aw,←hl];exact AB h1
   exact Fx (x:=w) pl.isList.typeIs slot_list_getitem.lookup
    (wpAny_getItem_list_neg (Q:=λr s'=>r=w∧EP X pins σ Q r s') pl.isList (by omega) (by rw[Aw]<;>omega) (by omega) (by rw[hj];simpa using ew) ⟨rfl,fin⟩) hs
theorem J0:ML X (My X.K):=by
 intro value slice pins s σ H x y v u Q I rx ry h hs;obtain⟨p,xs,i,z,rfl,rfl,hq,he,q⟩:=h;cases rx;obtain⟨t,rfl⟩:=ry;obtain⟨its,r,pl,hz⟩:=I.tuple hq;obtain⟨j,h1,h2,h3,h4,h5⟩:=Og he;obtain⟨w,ew,rw'⟩:=r.get h2;have hl:=r.length;have hn:=L7;have fin:EP X pins σ Q w s:=⟨z,H,I,rw',q⟩;exact Fx (x:=w) pl.typeIs slot_tuple_getitem.lookup
  (getItem_tuple (j:=j) (Q:=λr s'=>r=w∧EP X pins σ Q r s') pl (by omega) (by omega) (by rw[Aw,←hl];exact h1) (by simpa using ew) ⟨rfl,fin⟩) hs
theorem Qk:ML X Po:=by
 intro value slice pins s σ H x y v u Q I rx ry h hs;obtain⟨z,i,c,rfl,rfl,hz,he,q⟩:=h;obtain⟨t,rfl⟩:=rx;obtain⟨t',rfl⟩:=ry;obtain⟨j,h1,h2,h3,h4,h5⟩:=Og he;have hl:z.cps.toList.length=z.length:=by simp[Str.length]
 rw[hl] at h1 h4 h5;have hn:=L7;exact tail_any (typeIs_str s z t) slot_str_getitem.lookup (getItem_str (c:=c) (by have e1:decide (i< -(2^63:Int))=false:=decide_eq_false (by omega);have e2:decide (i≥2^63)=false:=decide_eq_false (by omega);rw[e1,e2,Bool.or_false]) (by rw[h1];simpa using h2) ⟨.str ⟨#[c]⟩,H,I.tok _,⟨_,rfl⟩,q⟩) hs
theorem Xg(its:List Value)(n j:Nat)(u:Value):BZ (·.setIfInBounds j u) {cls:= .type "list",data:= .seq its.toArray n}={cls:= .type "list",data:= .seq (its.set j u).toArray n}:=by simp[BZ]
theorem Inv.lst{p:Addr}(I:Inv X pins σ H s)(h:H p=some (.lst xs)):
 ∃(its:List Value)(n:Nat),Vals xs its∧s.heap.get? p=some {cls:= .type "list",data:= .seq its.toArray n}∧xs.length≤Av:=by
 obtain⟨z,its,n,r,e⟩:=I.hok p _ h;exact⟨its,n,r,e,z⟩
theorem Inv.lstUpd{p:Addr}{ys:List V}{its its':List Value}{n n':Nat}{f:Obj→Obj}(I:Inv X pins σ H s)(h:H p=some (.lst xs))
 (ho:s.heap.get? p=some {cls:= .type "list",data:= .seq its.toArray n}) (hf:f {cls:= .type "list",data:= .seq its.toArray n}={cls:= .type "list",data:= .seq its'.toArray n'}) (r:Vals ys its') (hz:ys.length≤Av) (t:Nat):
 Inv X pins σ (Hh H p (.lst ys)) {s with heap:=s.heap.update p f,toks:=t}:=by
 have e:(s.heap.update p f).get? p=some {cls:= .type "list",data:= .seq its'.toArray n'}:=by rw[Ba f ho (by rw[hf]<;>rfl),hf]
 refine I.write (x:=p) (e:=p) (by rw[h];trivial) (.inl rfl) (λb u hb q=>(AQ _ _ (By hb)).trans q) ⟨_,e⟩ ?_;exact⟨hz,its',n',r,e⟩
def TK:V→V→V→Hp→(Hp→Prop)→Prop:=λo i v H Q=>∃p xs k j,o= .ref p∧i= .int k∧H p=some (.lst xs)∧K5 xs.length k=some j∧Q (Hh H p (.lst (xs.set j v)))
theorem Oq:MH X TK:=by
 intro pins s σ H o i v ov iv u Q I ro ri rv h;obtain⟨p,xs,k,j,rfl,rfl,hp,hj,q⟩:=h;cases ro;obtain⟨t,rfl⟩:=ri;obtain⟨its,n,r,ho,hz⟩:=I.lst hp;obtain⟨h1,h2,h3,h4⟩:=Oc hj;have hl:=r.length;have hn:=L7;have I':Inv X pins σ (Hh H p (.lst (xs.set j v))) {s with heap:=s.heap.update p (BZ (·.setIfInBounds j u))}:=
  I.lstUpd hp ho (Xg its n j u) (r.set rv j) (by rw[List.length_set];exact hz) s.toks
 by_cases h0:0≤k
 · have hk:k.toNat=j:=by
    rw[seqIndex_of h0 h4] at h1;exact AB h1
   exact PySem.W.ki_setAt ho h0 (by omega) (by rw[Aw,←hl];exact h4) (by rw[hk];exact⟨_,I',q⟩)
 · have hk:(k+(its.toArray.size:Int)).toNat=j:=by
    rw[seqIndex_neg (by omega) h3] at h1;rw[Aw,←hl];exact AB h1
   exact PySem.W.ki_setBack ho (by omega) (by rw[Aw,←hl];exact h3) (by omega) (by rw[hk];exact⟨_,I',q⟩)
theorem XN(lo hi:Option Int)(n:Nat):(sliceBounds lo hi none n).1=((HT.sIx n 0 lo:Nat):Int)∧(sliceBounds lo hi none n).2.1=((HT.sIx n n hi:Nat):Int)∧(sliceBounds lo hi none n).2.2=1:=by
 refine⟨?_,?_,rfl⟩
 · cases lo with
   | none=>simp[sliceBounds,HT.sIx]
   | some i=>
    simp only[sliceBounds,HT.sIx,EY,show(1:Int)>0 by decide,if_true];by_cases h:i<0
    · simp only[h,if_true]<;>omega
    · simp only[h,if_false]<;>omega
 · cases hi with
   | none=>simp[sliceBounds,HT.sIx]
   | some i=>
    simp only[sliceBounds,HT.sIx,EY,show(1:Int)>0 by decide,if_true];by_cases h:i<0
    · simp only[h,if_true]<;>omega
    · simp only[h,if_false]<;>omega
theorem Yr(its:List Value)(lo hi:Option Int):slicePick its.toArray lo hi none=((its.drop (HT.sIx its.length 0 lo)).take (HT.sIx its.length its.length hi - HT.sIx its.length 0 lo)).toArray:=by obtain⟨h1,h2,h3⟩:=XN lo hi its.toArray.size;unfold slicePick;rw[h1,h2,h3];simp only[sliceRange_one,pick_run,Aw]<;>rfl
def Lo(K:Ai):V→Option Int→Option Int→Hp→VK→Prop:=λx lo hi H Q=>∃a xs,x= .ref a∧SqL K H a xs∧∀p,H p=none→Q (.ref p) (Hh H p (.lst (HV xs lo hi)))
theorem Kg:LL X (Lo X.K):=by intro pins s σ H x v vl vu lo hi sl Q I rx hs pl pu h;obtain⟨a,xs,rfl,hx,q⟩:=h;cases rx;obtain⟨its,r,ht,hz⟩:=I.list hx;have hlen:=r.length;refine⟨"list",_,slot_list_getitem.lookup,ht.isList.typeIs,?_⟩;refine wpAny_getItem_list_slice ht.isList hs pl pu .none (by simp) ?_ (by rw[Aw]<;>omega);rw[Yr,←hlen];refine⟨.ref s.heap.objs.size,_,I.laid (t':=s.toks) (o:= .lst (HV xs lo hi)) (λb ob q=>Ad _ q) (Ag _) ?_,rfl,q _ (I.hok.fresh (Ag _))⟩;exact⟨AT (SR xs lo hi) hz,_,0,(r.drop (HT.sIx xs.length 0 lo)).take (HT.sIx xs.length xs.length hi - HT.sIx xs.length 0 lo),Ao _ rfl⟩
def JK:V→Bool
 | .non=>true
 | .bl _=>true
 | .int _=>true
 | .str _=>true
 | _=>false
def JR:V→V→Bool
 | .non,.non=>true
 | .bl a,.bl b=>a==b
 | .bl a,.int b=>(if a then 1 else 0)==b
 | .int a,.bl b=>a==(if b then 1 else 0)
 | .int a,.int b=>a==b
 | .str a,.str b=>a==b
 | _,_=>false
theorem Tf{y x:V}{v:Value}(ry:RelV y u)(rx:RelV x v)(fy:JK y=true)(fx:JK x=true):SeqAt.EqAt A s u v (JR y x):=by
 cases y with
 | non=>
  cases ry;cases x with
  | non=>cases rx;exact Eg _
  | bl b=>cases rx;exact FM b
  | int b=>obtain⟨t,rfl⟩:=rx;exact FR b t
  | str b=>obtain⟨t,rfl⟩:=rx;exact FT b t
  | _=>exact absurd (show false=true from fx) Ax
 | bl a=>
  cases ry;cases x with
  | non=>cases rx;exact FN a
  | bl b=>cases rx;exact FO a b
  | int b=>obtain⟨t,rfl⟩:=rx;exact FU a b t
  | str b=>obtain⟨t,rfl⟩:=rx;exact FV a b t
  | _=>exact absurd (show false=true from fx) Ax
 | int a=>
  obtain⟨t',rfl⟩:=ry;cases x with
  | non=>cases rx;exact FW a t'
  | bl b=>cases rx;exact FX a t' b
  | int b=>obtain⟨t,rfl⟩:=rx;exact SeqAt.EqAt.int_int a t' b t
  | str b=>obtain⟨t,rfl⟩:=rx;exact E1 a t' b t
  | _=>exact absurd (show false=true from fx) Ax
 | str a=>
  obtain⟨t',rfl⟩:=ry;cases x with
  | non=>cases rx;exact FY a t'
  | bl b=>cases rx;exact FZ a t' b
  | int b=>obtain⟨t,rfl⟩:=rx;exact E2 a t' b t
  | str b=>obtain⟨t,rfl⟩:=rx;exact SeqAt.EqAt.str_str a t' b t
  | _=>exact absurd (show false=true from fx) Ax
 | _=>exact absurd (show false=true from fy) Ax
def J3(x:V)(u:Value):Bool:=match u with
 | .none=>JR .non x
 | .bool b=>JR (.bl b) x
 | .int i _=>JR (.int i) x
 | .str z _=>JR (.str z) x
 | _=>false
theorem Q8{x y:V}(r:RelV y u)(f:JK y=true):J3 x u=JR y x:=by
 cases y with
 | non=>cases r;rfl
 | bl b=>cases r;rfl
 | int i=>obtain⟨t,rfl⟩:=r;rfl
 | str z=>obtain⟨t,rfl⟩:=r;rfl
 | _=>exact absurd (show false=true from f) Ax
theorem LZ{x:V}:∀{xs:List V}{us:List Value},Vals xs us→xs.all JK=true→us.any (J3 x)=xs.any λy=>JR y x
 | _,_,.nil,_=>rfl
 | y::xs,u::us,.cons r t,f=>by rw[Da,Ay] at f;rw[BO,BO,Q8 r f.1,LZ t f.2]
theorem Mi{x:V}{v:Value}(rx:RelV x v)(fx:JK x=true):∀{xs:List V}{us:List Value},Vals xs us→xs.all JK=true→∀u∈us,SeqAt.EqAt A s u v (J3 x u)
 | _,_,.nil,_=>λu hu=>by cases hu
 | y::xs,u::us,.cons r t,f=>λu' hu=>by
  rw[Da,Ay] at f;rcases Al.mp hu with rfl | hu
  · rw[Q8 r f.1];exact Tf r rx f.1 fx
  · exact Mi rx fx t f.2 u' hu
def KJ(x:V)(xs:List V):Bool:=xs.any λy=>JR y x
def ND(K:Ai)(neg:Bool):R2:=λx y H Q=>∃p xs,y= .ref p∧(SqL K H p xs∨SqT K H p xs)∧JK x=true∧xs.all JK=true∧Q (.bl (if neg then !KJ x xs else KJ x xs)) H
theorem RW:Ie X (BD .In) (ND X.K false):=by
 intro pins s σ H x y v u Q I rx ry h;obtain⟨p,xs,rfl,hq,fx,fs,q⟩:=h;cases ry;rcases hq with hq | hq
 · obtain⟨its,r,pl,hz⟩:=I.list hq;refine SeqAt.in_listAt (J3 x) pl.isList (λw hw=>Mi rx fx r fs w (by simpa using hw)) ⟨.bl _,H,I,rfl,?_⟩;rw[show its.toArray.any (J3 x)=its.any (J3 x) by simp,LZ r fs];exact q
 · obtain⟨its,r,pl,hz⟩:=I.tuple hq;refine SeqAt.in_tupleAt (J3 x) pl (λw hw=>Mi rx fx r fs w (by simpa using hw)) ⟨.bl _,H,I,rfl,?_⟩;rw[show its.toArray.any (J3 x)=its.any (J3 x) by simp,LZ r fs];exact q
theorem SJ:Ie X (BD .NotIn) (ND X.K true):=by
 intro pins s σ H x y v u Q I rx ry h;obtain⟨p,xs,rfl,hq,fx,fs,q⟩:=h;cases ry;rcases hq with hq | hq
 · obtain⟨its,r,pl,hz⟩:=I.list hq;refine SeqAt.notIn_listAt (J3 x) pl.isList (λw hw=>Mi rx fx r fs w (by simpa using hw)) ⟨.bl _,H,I,rfl,?_⟩;rw[show its.toArray.any (J3 x)=its.any (J3 x) by simp,LZ r fs];exact q
 · obtain⟨its,r,pl,hz⟩:=I.tuple hq;refine SeqAt.notIn_tupleAt (J3 x) pl (λw hw=>Mi rx fx r fs w (by simpa using hw)) ⟨.bl _,H,I,rfl,?_⟩;rw[show its.toArray.any (J3 x)=its.any (J3 x) by simp,LZ r fs];exact q
theorem IM:J5 X (.builtin "len") (λxs H Q=>∃p ys,xs=[.ref p]∧(SqL X.K H p ys∨SqT X.K H p ys)∧Q (.int ys.length) H):=by
 intro pins s σ H xs us Q I r h;obtain⟨p,ys,rfl,hq,q⟩:=h;obtain⟨u,rfl,rx⟩:=Jy r;cases rx;have hn:=L7;rcases hq with hq | hq
 · obtain⟨its,r',pl,hz⟩:=I.list hq;have hlen:=r'.length;exact Calls.call_len_list pl.isList (by simp only[Aw]<;>omega) ⟨.int ys.length,H,I.tok _,⟨s.toks+1,by rw[Aw,hlen]⟩,q⟩
 · obtain⟨its,r',pl,hz⟩:=I.tuple hq;have hlen:=r'.length;exact len_tuple pl (by simp only[Aw]<;>omega) ⟨.int ys.length,H,I.tok _,⟨s.toks+1,by rw[Aw,hlen]⟩,q⟩
theorem SI:J5 X (.builtin "len") (λxs H Q=>∃z,xs=[.str z]∧z.length≤Av∧Q (.int z.length) H):=by intro pins s σ H xs us Q I r h;obtain⟨z,rfl,hz,q⟩:=h;obtain⟨u,rfl,t,rfl⟩:=Jy r;have hn:=L7;exact len_str (by omega) ⟨.int z.length,H,I.tok _,⟨_,rfl⟩,q⟩
theorem OK:J5 X (.type "list") (λxs H Q=>∃p ys,xs=[.ref p]∧(SqL X.K H p ys∨SqT X.K H p ys)∧∀l,H l=none→Q (.ref l) (Hh H l (.lst ys))):=by
 intro pins s σ H xs us Q I r h;obtain⟨p,ys,rfl,hq,q⟩:=h;obtain⟨u,rfl,rx⟩:=Jy r;cases rx;have fin:∀(its:List Value),Vals ys its→ys.length≤Av→∀(h':Heap)(c':Nat),(∀b o',s.heap.get? b=some o'→h'.get? b=some o')→
  h'.get? s.heap.objs.size=some {cls:= .type "list",dict:=none,data:= .seq its.toArray c',slots:=#[]}→EP X pins σ Q (.ref s.heap.objs.size) {s with heap:=h'}:=λits r' hz h' c' kp e=>
  ⟨.ref s.heap.objs.size,_,I.laid (t':=s.toks) kp (Ag _) (show ObjOk X.prog X.w _ h' _ (.lst ys) from⟨hz,its,c',r',e⟩),rfl,q _ (I.hok.fresh (Ag _))⟩
 rcases hq with hq | hq
 · obtain⟨its,r',pl,hz⟩:=I.list hq;have hlen:=r'.length;obtain⟨o,ho,hc,n,hd⟩:=pl.isList;exact call_list_seq p (.inl rfl) ho hc hd (λh' c' kp e=>fin its r' hz h' c' kp e) (by simp only[Aw]<;>omega)
 · obtain⟨its,r',pl,hz⟩:=I.tuple hq;have hlen:=r'.length;obtain⟨o,ho,hc,n,hd⟩:=pl;exact call_list_seq p (.inr rfl) ho hc hd (λh' c' kp e=>fin its r' hz h' c' kp e) (by simp only[Aw]<;>omega)
theorem Nv:J5 X (.type "tuple") (λxs H Q=>∃p ys,xs=[.ref p]∧((SqL X.K H p ys∧∀l,H l=none→Q (.ref l) (Hh H l (.tup ys)))∨(SqT X.K H p ys∧Q (.ref p) H))):=by
 intro pins s σ H xs us Q I r h;obtain⟨p,ys,rfl,h⟩:=h;obtain⟨u,rfl,rx⟩:=Jy r;cases rx;rcases h with⟨hq,q⟩ | ⟨hq,q⟩
 · obtain⟨its,r',pl,hz⟩:=I.list hq;have hlen:=r'.length;refine call_tuple_list pl.isList (λh' kp=>?_) (by simp only[Aw]<;>omega);have I1:Inv X pins σ H {s with heap:=h'}:=I.kept (t':=s.toks) kp;have I2:Inv X pins σ (Hh H h'.objs.size (.tup ys)) {s with heap:=h'.push {cls:= .type "tuple",data:= .seq its.toArray}}:=
    I1.laid (t':=s.toks) (λb o e=>Ad _ e) (Ag _) (show ObjOk X.prog X.w _ _ _ (.tup ys) from⟨hz,its,r',IsTupP.new _ _⟩)
   exact⟨.ref h'.objs.size,_,I2,rfl,q _ (I1.hok.fresh (Ag _))⟩
 · obtain⟨its,r',pl,hz⟩:=I.tuple hq;exact call_tuple_same pl ⟨.ref p,H,I,rfl,q⟩
def SV(K:Ai)(T:String)(x:V)(H:Hp):Prop:=match x with
 | .str _=>T="str"
 | .int _=>T="int"
 | .ref p=>(T="list"∧∃xs,SqL K H p xs)∨(T="tuple"∧∃o,K.lookup p=some o∧o.cls= .type "tuple"∧o.dict=none)∨
  (T="dict"∧((∃kvs,H p=some (.dK kvs))∨∃kvs,H p=some (.dT kvs)))∨(T="set"∧∃S n,H p=some (.set S n))
 | _=>False
theorem U4{T:String}{x:V}{v:Value}(I:Inv X pins σ H s)(r:RelV x v)(ty:SV X.K T x H):
 s.TypeIs v T∧∀a,v= .ref a→∃ob,s.heap.get? a=some ob∧ob.dict=none:=by
 cases x with
 | str z=> obtain⟨t,rfl⟩:=r;cases(show T="str" from ty);exact⟨typeIs_str s z t,λ_ e=>nomatch e⟩
 | int i=> obtain⟨t,rfl⟩:=r;cases(show T="int" from ty);exact⟨typeIs_int s i t,λ_ e=>nomatch e⟩
 | ref p=>
  cases r;rcases ty with⟨rfl,xs,hq⟩ | ⟨rfl,o,hk,hc,hd⟩ | ⟨rfl,hk⟩ | ⟨rfl,S,n,hk⟩
  · obtain⟨its,_,pl,_⟩:=I.list hq;refine⟨pl.isList.typeIs,λa e=>?_⟩;cases e;obtain⟨o,n,e,c,hd,_⟩:=pl;exact⟨o,e,hd⟩
  · refine⟨⟨o,I.kIn p o hk,hc⟩,λa e=>?_⟩;cases e;exact⟨o,I.kIn _ o hk,hd⟩
  · have z:∃o,s.heap.get? p=some o∧o.ExactDict:=by
     rcases hk with⟨kvs,hk⟩ | ⟨kvs,hk⟩
     · obtain⟨_,_,_,_,o,_,_,e,ex,_⟩:=I.hok p _ hk;exact⟨o,e,ex⟩
     · obtain⟨_,_,_,_,o,_,_,e,ex,_⟩:=I.hok p _ hk;exact⟨o,e,ex⟩
    obtain⟨o,e,ex⟩:=z;refine⟨⟨o,e,ex.1⟩,λa e2=>?_⟩;cases e2;exact⟨o,e,ex.2.1⟩
  · obtain⟨o,_,_,_,e,ex,_⟩:=I.hok p _ hk;refine⟨⟨o,e,ex.1⟩,λa e2=>?_⟩;cases e2;exact⟨o,e,ex.2.1⟩
 | _=>exact Dc ty
def SY(K:Ai)(T:String)(r:V→List V→Hp→VK→Prop)(to:TE)(t:TA):TE:=λσ H Q=>to σ H λx H1=>SV K T x H1∧t σ H1 λxs H2=>r x xs H2 Q
variable{o:Expr}{es:List Expr}{to:TE}{t:TA}{name:Str}{apos cpos:Pos}{T id:String}{r:V→List V→Hp→VK→Prop}
theorem KA(pa:PlainAttrs T)(slot:Slot T name id)(hty:typeOf (.builtin id)=pure (.type "method_descriptor"))(hm:Tb X id r)(ho:PE X o to)(ha:PA X (e::es) t)
 (hbase:attributeBase o name X.env (eval o X.env)=eval o X.env:=by rfl)
 (hfew:((backTo cpos (AL (e::es) X.env)).all (λx=>!x.1) && (backToKw cpos (keywordEach [] X.env)).all (λx=>x.1.isSome)
  && decide ((e::es).length+([]:List Keyword).length+(if([]:List Keyword).isEmpty then 0 else 1)<30))=true:=by rfl)
 (hline:(apos.endLine==cpos.line)=true:=by rfl) (hs:AL (e::es) X.env=(false,eval e X.env)::AL es X.env:=by rfl) (hplain:(backTo cpos (AL es X.env)).any (·.1)=false:=by rfl):
 PE X (.Call (.Attribute o name apos) (e::es) [] cpos) (SY X.K T r to t):=by
 intro pins s σ H Q I h;refine wpAny_Call_method_late hbase hfew hline rfl (Hj (ho pins s σ H _ I h) λv s1 ⟨x,H1,I1,r1,ty,q1⟩=>?_);obtain⟨h1,h2⟩:=U4 I1 r1 ty;refine⟨T,id,pa,slot,hty,h1,h2,?_⟩;have hA:=ha cpos pins s1 σ H1 _ I1 q1;rw[hs] at hA ⊢;refine Fy (by show(false || (backTo cpos (AL es X.env)).any (·.1))=false;rw[hplain]<;>rfl) (FP ?_);exact Hj hA λus s2 ⟨vs,H2,I2,r2,q2⟩=>hm pins s2 σ H2 x vs v us Q I2 r1 r2 q2
end
def NG(X:Cx)(id:String)(r:V→List V→Hp→VK→Prop):Prop:=
 ∀(pins:List (Addr×Obj))(s:Shared)(σ:St)(H:Hp)(x:V)(xs:List V)(v:Value)(us:List Value)(Q:VK),Inv X pins σ H s→RelV x v→Vals xs us→r x xs H Q→
  wpAny (model X.prog X.w) X.A (call (.builtin id) (v::us)) (EP X pins σ Q) X.xe s
theorem Vals.one:∀{x:V}{us:List Value},Vals [x] us→∃u,us=[u]∧RelV x u
 | _,_,.cons r .nil=>⟨_,rfl,r⟩
theorem Vals.eraseIdx:∀{xs:List V}{us:List Value}(i:Nat),Vals xs us→Vals (xs.eraseIdx i) (us.eraseIdx i)
 | _,_,_,.nil=> .nil
 | _,_,0,.cons _ t=>t
 | _,_,i+1,.cons r t=> .cons r (Vals.eraseIdx i t)
theorem RT{α:Type}:∀(l:List α)(i:Nat),(l.eraseIdx i).length≤l.length
 | [],_=>Ag _
 | _::_,0=>De _
 | _::r,i+1=>Nat.succ_le_succ (RT r i)
section
variable{l:Addr}{ys zs:List V}
theorem Inv.lset{its its':List Value}{n:Nat}{f:Array Value→Array Value}{t':Nat}(I:Inv X pins σ H s)(hH:H l=some (.lst xs))
 (e:s.heap.get? l=some {cls:= .type "list",data:= .seq its.toArray n}) (hf:f its.toArray=its'.toArray) (hv:Vals ys its') (hz:ys.length≤Av):
 Inv X pins σ (Hh H l (.lst ys)) {s with heap:=s.heap.update l (BZ f),toks:=t'}:=by
 have q:=PySem.IsL.update e f;rw[hf] at q;refine I.write (x:=l) (e:=l) (by rw[hH];exact trivial) (.inl rfl) (λb' u hb hu=>(AQ s.heap (BZ f) (By hb)).trans hu) ⟨_,q⟩ ?_;exact⟨hz,its',_,hv,q⟩
theorem Inv.lnew{its:List Value}{t':Nat}(I:Inv X pins σ H s)(hv:Vals ys its)(hz:ys.length≤Av):
 Inv X pins σ (Hh H s.heap.objs.size (.lst ys)) {s with heap:=s.heap.push {cls:= .type "list",data:= .seq its.toArray},toks:=t'}:=
 I.laid (λ_ _ q=>Ad _ q) (Ag _) ⟨hz,its,0,hv,Ao _ rfl⟩
theorem Inv.fresh(I:Inv X pins σ H s):H s.heap.objs.size=none:=I.hok.fresh (Ag _)
theorem Inv.lstM(I:Inv X pins σ H s)(hH:H l=some (.lst xs)):xs.length≤Av∧∃(its:List Value)(n:Nat),Vals xs its∧xs.length=its.length∧s.heap.get? l=some {cls:= .type "list",data:= .seq its.toArray n}:=by obtain⟨z,its,n,r,e⟩:=I.hok l _ hH;exact⟨z,its,n,r,r.length,e⟩
theorem Oo(h:n≤Av):DF n=false:=by unfold DF;exact decide_eq_false (by omega)
end
def Um:V→List V→Hp→VK→Prop:=λx vs H Q=>∃l xs y,x= .ref l∧vs=[y]∧H l=some (.lst xs)∧xs.length<Av∧Q .non (Hh H l (.lst (xs++[y])))
theorem LJ:NG X "list.append" Um:=by intro pins s σ H x vs v us Q I rx rv h;obtain⟨l,xs,y,rfl,rfl,hH,hz,q⟩:=h;cases rx;obtain⟨u,rfl,ru⟩:=rv.one;obtain⟨z,its,n,r,hl,e⟩:=I.lstM hH;refine call_meets F.slot_list_append ⟨_,e,rfl⟩ F.entry_list_append (F.args_list_append_2 _ _) (PySem.list_append l its.toArray n u (by rw[Aw];omega)) ⟨e,?_⟩;refine⟨.non,_,I.lset (its':=its++[u]) hH e (by simp) (r.append (.cons ru .nil)) ?_,rfl,q⟩;rw[Au,F7];omega
def Uo:V→List V→Hp→VK→Prop:=λx vs H Q=>∃l b xs zs,x= .ref l∧vs=[.ref b]∧H l=some (.lst xs)∧H b=some (.lst zs)∧xs.length+zs.length≤Av∧Q .non (Hh H l (.lst (xs++zs)))
theorem Wl:NG X "list.extend" Uo:=by
 intro pins s σ H x vs v us Q I rx rv h;obtain⟨l,b,xs,zs,rfl,rfl,hH,hB,hz,q⟩:=h;cases rx;obtain⟨u,rfl,ru⟩:=rv.one;cases ru;obtain⟨z,its,n,r,hl,e⟩:=I.lstM hH;obtain⟨z2,its2,n2,r2,hl2,e2⟩:=I.lstM hB;have hsz:its.toArray.size+its2.toArray.size≤Av:=by rw[Aw,Aw];omega
 have hlong:¬(!its.toArray.isEmpty && DF (its.toArray.size+its2.toArray.size))=true:=by rw[Oo hsz,Eu];exact Ax
 refine call_meets F.slot_list_extend ⟨_,e,rfl⟩ F.entry_list_extend (F.args_list_extend_2 _ _)
  (AutoSeq1.list_extend_list_list_0 l its.toArray n b its2.toArray n2 hlong (by rw[Aw];omega) (by omega)) ⟨e,e2,?_⟩
 refine⟨.non,_,I.lset (its':=its++its2) hH e (by simp) (r.append r2) ?_,rfl,q⟩;rw[Au];omega
def UN:V→List V→Hp→VK→Prop:=λx vs H Q=>∃l xs i k y,x= .ref l∧vs=[.int i]∧H l=some (.lst xs)∧ -(2^63)≤i∧i<2^63∧seqIndex? i xs.length=some k∧xs[k]?=some y∧Q y (Hh H l (.lst (xs.eraseIdx k)))
theorem Rs:NG X "list.pop" UN:=by
 intro pins s σ H x vs v us Q I rx rv h;obtain⟨l,xs,i,k,y,rfl,rfl,hH,h1,h2,hk,hy,q⟩:=h;cases rx;obtain⟨u,rfl,ru⟩:=rv.one;obtain⟨t,rfl⟩:=ru;obtain⟨z,its,n,r,hl,e⟩:=I.lstM hH;obtain⟨w,hw,rw'⟩:=r.get hy;refine call_meets F.slot_list_pop ⟨_,e,rfl⟩ F.entry_list_pop (F.args_list_pop_2 _ _)
  (MeetsSeq.list_pop_at l its.toArray n i t k w (fitsIndex_both h1 h2) (by rw[Aw,←hl];exact hk) (by rw[←C1];exact hw) (by rw[Aw];omega)) ⟨e,?_⟩
 refine⟨y,_,I.lset (its':=its.eraseIdx k) hH e ?_ (r.eraseIdx k) ?_,rw',q⟩
 · show its.toArray.eraseIdxIfInBounds k=(its.eraseIdx k).toArray;rw[List.eraseIdxIfInBounds_toArray]
 · have:=RT xs k;omega
def Mz:R2:=λx y H Q=>∃l b xs zs,x= .ref l∧y= .ref b∧H l=some (.lst xs)∧H b=some (.lst zs)∧xs.length+zs.length≤Av∧∀p,H p=none→Q (.ref p) (Hh H p (.lst (xs++zs)))
theorem LW:Ie X (binaryOp .Add) Mz:=by
 intro pins s σ H x y v u Q I rx ry h;obtain⟨l,b,xs,zs,rfl,rfl,hH,hB,hz,q⟩:=h;cases rx;cases ry;obtain⟨z,its,n,r,hl,e⟩:=I.lstM hH;obtain⟨z2,its2,n2,r2,hl2,e2⟩:=I.lstM hB;refine PySem.P.add_list e e2 ?_ (by rw[Aw,Aw];omega);have ea:its.toArray++its2.toArray=(its++its2).toArray:=by simp
 rw[ea];exact⟨.ref _,_,I.lnew (t':=s.toks) (r.append r2) (by rw[Au];omega),rfl,q _ I.fresh⟩
theorem Wi{a c:Nat}(hac:a≤c)(hc:c≤n):sliceBounds (some (a:Int)) (some (c:Int)) none n=((a:Int),(c:Int),1):=by
 simp only[sliceBounds,EY];have h1:¬((a:Int)<0):=by omega
 have h2:¬((c:Int)<0):=by omega
 simp only[h1,h2,if_false,show(1:Int)>0 by decide,if_true];congr 1
 · omega
 · congr 1;omega
set_option maxRecDepth 100000 in
theorem Kl{l b sl:Addr}{items new:Array Value}{n n2:Nat}{vl vu:Value}{a c:Nat}{Q:Unit→Shared→Prop}
 (e:s.heap.get? l=some {cls:= .type "list",data:= .seq items n}) (e2:s.heap.get? b=some {cls:= .type "list",data:= .seq new n2}) (hne:l≠b)
 (hs:s.heap.IsSliceOf sl vl vu .none) (pl:IsPart vl (some (a:Int))) (pu:IsPart vu (some (c:Int))) (hac:a≤c) (hc:c≤items.size)
 (hsz:items.size+new.size≤Av) (h:Q () {s with heap:=s.heap.update l (BZ λxs=>xs.extract 0 a++new++xs.extract c xs.size)}):
 wpAny (model prog w) A (setItem (.ref l) (.ref sl) (.ref b)) Q E s:=by
 have hl:s.heap.IsList l items:=PySem.IsL.isList e;have hb:s.heap.IsList b new:=PySem.IsL.isList e2;obtain⟨os,hos,hcs,hds⟩:=id hs;have hTs:s.TypeIs (.ref sl) "slice":=⟨os,hos,hcs⟩;have hstep:¬((rawPart none==rawInt 0)=true):=Ax;have hsame:Cn (.ref l) (.ref b)=false:=by unfold Cn;exact beq_eq_false_iff_ne.mpr hne
 have hmax:(max (a:Int) (c:Int)).toNat=c:=by omega
 have hz':((λxs:Array Value=>xs.extract 0 a++new++xs.extract c xs.size) items).size≤Av+1:=by simp only[EQ,Array.size_extract];omega
 unfold setItem
 try with_reducible refine Bh ?_
 first | refine Aa (Ac ?_) | skip
 refine Aa (EO hl.typeIs (by decide) ?_);refine Aa (AW (name:=Cc "__setitem__") hl.typeIs slot_list_setitem
  (AY slot_list_setitem hl.typeIs entry_list_setitem ?_ (args_list_setitem _ _ _)))
 show wpAny _ _ (E3 (.ref sl)>>=_) _ _ s;refine Aa ?_;unfold E3;refine Aa (Eh hTs slice_no_index ?_);simp only[Option.isNone_none,if_true];refine Ac ?_;show wpAny _ _ (typeOf (.ref sl)>>=_) _ _ s;refine Aa (CP hTs ?_)
 first
  | rw[if_neg (by decide)]
  | refine E4 (by decide) ?_
 rw[listSliceParts_eq];refine Aa (Aa (AS hos hds (x:= .none) rfl (Aa (F8 .none ?_))));rw[if_neg hstep];refine Aa (AS hos hds (x:=vl) rfl (Aa (F8 pl ?_)));refine Aa (AS hos hds (x:=vu) rfl (Aa (F8 pu (Ac ?_))))
 first
  | simp only[hsame,BH,if_false]
  | refine E4 hsame ?_
  | (dsimp only
     rw[if_neg (by rw[hsame];exact Ax)])
 refine Aa (m:=ES (.ref b) "must assign iterable to extended slice") ?_;unfold ES;refine Aa (CP hb.typeIs ?_)
 first
  | refine PySem.W.KFB.if_so (by decide) ?_
  | rw[if_pos (by decide)]
  | simp only[beq_self_eq_true,Bool.true_or,if_true]
 unfold Builtin.List.listItems;refine Aa (A_ e2 rfl (Ac ?_));refine Aa (Aa (A_ e rfl (Ac ?_)));refine Aa (DQ ((sliceIndices_raw (some (a:Int)) (some (c:Int)) none items.size (by simp)).trans (congrArg (pure:Int×Int×Int→Sem (Int×Int×Int)) (Wi hac hc))) ?_);show wpAny _ _ (if((1:Int)==1)=true then _ else _) _ _ s
 rw[if_pos (by decide)];refine Aa (BN ?_)
 first
  | simp only[Oo hsz,BH,if_false]
  | refine E4 (Oo hsz) ?_
 first | refine Aa (Ac ?_) | skip
 show wpAny _ _ (updateSeq l (λxs=>xs.extract 0 ((a:Int)).toNat++new++xs.extract (max (a:Int) (c:Int)).toNat xs.size)>>=_) _ _ s;rw[hmax,Bc];refine Aa (BR (hz:=AT (Dh _ _) hsz) (_hz':=hz') e rfl ?_);refine Aa (Cs ?_)
 first
  | exact Aa (Ac (Ac ⟨.none,rfl,Ac h⟩))
  | exact Ac ⟨.none,rfl,Ac h⟩
section
variable{κ:Type}[DecidableEq κ]
def HH(kvs:List (κ×V))(k:κ):Option V:=(kvs.find? λkv=>decide (kv.1=k)).map (·.2)
def HU(kvs:List (κ×V))(k:κ)(v:V):List (κ×V):=
 if(kvs.any λkv=>decide (kv.1=k))=true then kvs.map (λkv=>if kv.1=k then(kv.1,v) else kv) else kvs++[(k,v)]
theorem JP{p:κ×V}{r:List (κ×V)}{k:κ}(e:p.1=k):HH (p::r) k=some p.2:=by simp[HH,C9,e]
theorem JO{p:κ×V}{r:List (κ×V)}{k:κ}(e:¬p.1=k):HH (p::r) k=HH r k:=by simp[HH,C9,e]
theorem Nh(k:κ):∀kvs:List (κ×V),(kvs.any λkv=>decide (kv.1=k))=(HH kvs k).isSome
 | []=>rfl
 | p::r=>by
  rw[BO];by_cases e:p.1=k
  · simp only[JP e,decide_eq_true e,Bool.true_or,Option.isSome_some]
  · rw[JO e,decide_eq_false e,Bool.false_or];exact Nh k r
theorem RG(k j:κ)(y:V):∀kvs:List (κ×V),HH (kvs.map λkv=>if kv.1=k then(kv.1,y) else kv) j=(HH kvs j).map λx=>if j=k then y else x
 | []=>rfl
 | p::r=>by
  have ih:=RG k j y r;rw[Az];by_cases h:p.1=k
  · rw[if_pos h];by_cases e:p.1=j
    · rw[JP (p:=(p.1,y)) e,JP e,Ej,if_pos (e.symm.trans h)]
    · rw[JO (p:=(p.1,y)) e,JO e,ih]
  · rw[if_neg h];by_cases e:p.1=j
    · rw[JP (p:=p) e,JP e,Ej,if_neg (λz=>h (e.trans z))]
    · rw[JO (p:=p) e,JO e,ih]
theorem RP(k j:κ)(y:V):∀kvs:List (κ×V),HH kvs k=none→HH (kvs++[(k,y)]) j=if j=k then some y else HH kvs j
 | [],_=>by
  by_cases e:k=j
  · rw[if_pos e.symm];exact JP (p:=(k,y)) e
  · rw[if_neg (λz=>e z.symm)];exact JO (p:=(k,y)) e
 | p::r,hn=>by
  rw[EZ];have hk:¬p.1=k:=λz=>by rw[JP z] at hn;cases hn
  rw[JO hk] at hn;have ih:=RP k j y r hn;by_cases e:p.1=j
  · rw[JP e,JP e,if_neg (λz=>hk (e.trans z))]
  · rw[JO e,JO e,ih]
theorem RH(kvs:List (κ×V))(k j:κ)(y:V):HH (HU kvs k y) j=if j=k then some y else HH kvs j:=by
 unfold HU;by_cases a:(kvs.any λkv=>decide (kv.1=k))=true
 · rw[if_pos a,RG];rw[Nh] at a;by_cases e:j=k
   · obtain⟨x,hx⟩:=EX.mp a;rw[if_pos e,e,hx,Ej,if_pos rfl]
   · rw[if_neg e];cases HH kvs j with
     | none=>rfl
     | some x=>rw[Ej,if_neg e]
 · rw[if_neg a];refine RP k j y kvs ?_;rw[Nh] at a;cases q:HH kvs k with
   | none=>rfl
   | some x=>rw[q] at a;exact(a rfl).elim
theorem Nl(kvs:List (κ×V))(k:κ)(v:V):(HU kvs k v).length≤kvs.length+1:=by
 unfold HU
 split
 · rw[Ab];omega
 · rw[Au,AN,List.length_nil];omega
theorem RelO.isSome_eq{o:Option V}{u:Option Value}(r:RelO o u):o.isSome=u.isSome:=by
 cases o with
 | none=>cases u with
  | none=>rfl
  | some _=>exact(show False from r).elim
 | some _=>cases u with
  | none=>exact(show False from r).elim
  | some _=>rfl
theorem RelO.getD{o:Option V}{u:Option Value}{d:V}{d':Value}(r:RelO o u)(rd:RelV d d'):RelV (o.getD d) (u.getD d'):=by
 cases o with
 | none=>cases u with
  | none=>exact rd
  | some _=>exact(show False from r).elim
 | some _=>cases u with
  | none=>exact(show False from r).elim
  | some _=>exact r
theorem KV.val{kvs:List (κ×V)}{vs:List (κ×Value)}(r:KV kvs vs)(k:κ):RelO (HH kvs k) (valueAt vs k):=by
 unfold KV at r
 induction r with
 | nil=>exact True.intro
 | @cons p q ps qs h t ih=>
  obtain⟨h1,h2⟩:=h;by_cases e:p.1=k
  · have e':q.1=k:=h1.symm.trans e;have b:valueAt (q::qs) k=some q.2:=by simp[valueAt,C9,e']
    rw[JP e,b];exact h2
  · have e':¬q.1=k:=λz=>e (h1.trans z);have b:valueAt (q::qs) k=valueAt qs k:=by simp[valueAt,C9,e']
    rw[JO e,b];exact ih
theorem KV.any{kvs:List (κ×V)}{vs:List (κ×Value)}(r:KV kvs vs)(k:κ):(kvs.any λkv=>decide (kv.1=k))=vs.any λkv=>decide (kv.1=k):=by
 unfold KV at r
 induction r with
 | nil=>rfl
 | cons h t ih=>rw[BO,BO,ih,h.1]
theorem KV.repl{kvs:List (κ×V)}{vs:List (κ×Value)}(r:KV kvs vs)(k:κ){y:V}(ry:RelV y u):
 KV (kvs.map λkv=>if kv.1=k then(kv.1,y) else kv) (vs.map λkv=>if kv.1=k then(kv.1,u) else kv):=by
 unfold KV at r ⊢
 induction r with
 | nil=>exact .nil
 | @cons p q ps qs h t ih=>
  rw[Az,Az];refine .cons ?_ ih;obtain⟨h1,h2⟩:=h;by_cases e:p.1=k
  · rw[if_pos e,if_pos (h1.symm.trans e)];exact⟨h1,ry⟩
  · rw[if_neg e,if_neg (λz=>e (h1.trans z))];exact⟨h1,h2⟩
theorem KV.put{kvs:List (κ×V)}{vs:List (κ×Value)}(r:KV kvs vs)(k:κ){y:V}(ry:RelV y u):KV (HU kvs k y) (stored vs k u):=by
 unfold HU stored;rw[r.any k];by_cases e:(vs.any λkv=>decide (kv.1=k))=true
 · rw[if_pos e,if_pos e];exact r.repl k ry
 · rw[if_neg e,if_neg e];exact Paired.snoc r ⟨rfl,ry⟩
theorem KV.length{kvs:List (κ×V)}{vs:List (κ×Value)}(r:KV kvs vs):kvs.length=vs.length:=EC r
end
theorem LQ{k:HD}(r:RelV (kV k) u):(Ja P w).is k u=true:=by
 cases k with
 | inl i=>obtain⟨t,e⟩:=(show ∃t,u=Value.int i t from r);subst e;exact X8 P w i t
 | inr x=>obtain⟨t,e⟩:=(show ∃t,u=Value.str x t from r);subst e;exact X9 P w x t
theorem Sm:∀{ks:List HD}{us:List Value},Vals (ks.map kV) us→ItemsAre (Ja P w) ks us
 | [],_,r=>by rw[DG] at r;cases r;exact .nil
 | k::ks,_,r=>by
  rw[Az] at r;cases r with
  | cons h t=>exact .cons (LQ h) (Sm t)
abbrev KT(H:Hp):List (List HD×V)→List (List HD×Addr×Value)→Prop:=Paired λp q=>p.1=q.1∧H q.2.1=some (.tup (p.1.map kV))∧RelV p.2 q.2.2
theorem KT.val{kvs:List (List HD×V)}{xs:List (List HD×Addr×Value)}(r:KT H kvs xs)(k:List HD):RelO (HH kvs k) ((atKey xs k).map (·.2)):=by
 induction r with
 | nil=>exact True.intro
 | @cons p q ps qs h t ih=>
  obtain⟨h1,_,h2⟩:=h;by_cases e:p.1=k
  · have e':q.1=k:=h1.symm.trans e;have b:atKey (q::qs) k=some q.2:=by simp[atKey,C9,e']
    rw[JP e,b];exact h2
  · have e':¬q.1=k:=λz=>e (h1.trans z);have b:atKey (q::qs) k=atKey qs k:=by simp[atKey,C9,e']
    rw[JO e,b];exact ih
theorem KT.repl{kvs:List (List HD×V)}{xs:List (List HD×Addr×Value)}(r:KT H kvs xs)(k:List HD){y:V}(ry:RelV y u):
 KT H (kvs.map λkv=>if kv.1=k then(kv.1,y) else kv) (xs.map (putAt k u)):=by
 induction r with
 | nil=>exact .nil
 | @cons p q ps qs h t ih=>
  rw[Az,Az];refine .cons ?_ ih;obtain⟨h1,h2,h3⟩:=h;unfold putAt;by_cases e:p.1=k
  · rw[if_pos e,if_pos (h1.symm.trans e)];exact⟨h1,h2,ry⟩
  · rw[if_neg e,if_neg (λz=>e (h1.trans z))];exact⟨h1,h2,h3⟩
theorem KT.put{kvs:List (List HD×V)}{xs:List (List HD×Addr×Value)}(r:KT H kvs xs)(k:List HD){y:V}(hb:H b=some (.tup (k.map kV)))(ry:RelV y u):
 KT H (HU kvs k y) (storedH xs k b u):=by
 have e:(kvs.any λkv=>decide (kv.1=k))=(atKey xs k).isSome:=by rw[Nh,(r.val k).isSome_eq,Option.isSome_map]
 unfold HU storedH;rw[e];by_cases q:(atKey xs k).isSome=true
 · rw[if_pos q,if_pos q];exact r.repl k ry
 · rw[if_neg q,if_neg q];exact Paired.snoc r ⟨rfl,hb,ry⟩
theorem KT.keeps{H':Hp}{kvs:List (List HD×V)}{xs:List (List HD×Addr×Value)}(r:KT H kvs xs)(ht:∀b ys,H b=some (.tup ys)→H' b=some (.tup ys)):KT H' kvs xs:=
 Paired.mapP r λ_ _ z=>⟨z.1,ht _ _ z.2.1,z.2.2⟩
theorem Qh{u:HO}(ok:HOk P w H h)(e:Rd H a u):ObjOk P w H h a u:=e.ok ok
theorem LM{kvs:List (HD×V)}(ok:HOk P w H h)(e:Rd H a (.dK kvs)):kvs.length≤Av∧(a==C6)=false∧∃vs,KV kvs vs∧h.DictOf (Ja P w) a vs:=
 show ObjOk P w H h a (.dK kvs) from Qh ok e
theorem PQ{kvs:List (HD×V)}(ok:HOk P w H h)(e:H a=some (.dK kvs)):kvs.length≤Av∧(a==C6)=false∧∃vs,KV kvs vs∧h.DictOf (Ja P w) a vs:=LM ok (.inl e)
theorem MW{ks:List HD}(ok:HOk P w H h)(e:H a=some (.tup (ks.map kV))):(tupleKind (Ja P w)).is h ks a:=by obtain⟨_,its,r,o,h1,h2,_,n,h3⟩:=(show ObjOk P w H h a (.tup (ks.map kV)) from ok a _ e);exact⟨o,its.toArray,n,h1,h2,h3,by simpa using Sm r⟩
theorem LN{kvs:List (List HD×V)}(ok:HOk P w H h)(e:Rd H a (.dT kvs)):kvs.length≤Av∧(a==C6)=false∧
 ∃xs,KT H kvs xs∧h.DictOfH (tupleKind (Ja P w)) a xs:=by
 obtain⟨z,y,xs,r,o,es,ep,h1,h2,h3,h4,h5⟩:=(show ObjOk P w H h a (.dT kvs) from Qh ok e);refine⟨z,y,xs,r,o,es,ep,h1,h2,h3,h4,λx hx=>?_,h5⟩;have all:∀{l:List (List HD×V)}{m:List (List HD×Addr×Value)},KT H l m→∀x∈m,(tupleKind (Ja P w)).is h x.1 x.2.1:=by
  intro l m q
  induction q with
  | nil=>intro x hx;exact nomatch hx
  | @cons p q ps qs hq t ih=>
   intro x hx;rcases Al.mp hx with e | hx
   · subst e;exact MW ok (by rw[←hq.1];exact hq.2.1)
   · exact ih x hx
 exact all r x hx
theorem T8{kvs:List (List HD×V)}(ok:HOk P w H h)(e:H a=some (.dT kvs)):kvs.length≤Av∧(a==C6)=false∧
 ∃xs,KT H kvs xs∧h.DictOfH (tupleKind (Ja P w)) a xs:=LN ok (.inl e)
def DGet(H:Hp)(a:Addr)(y:V)(r:Option V):Prop:=
 (∃kvs k,Rd H a (.dK kvs)∧y=kV k∧r=HH kvs k)∨∃kvs k b,Rd H a (.dT kvs)∧y= .ref b∧H b=some (.tup (k.map kV))∧r=HH kvs k
def DPut(H:Hp)(a:Addr)(y v:V)(H':Hp):Prop:=
 (∃kvs k,H a=some (.dK kvs)∧y=kV k∧kvs.length<Av∧H'=Hh H a (.dK (HU kvs k v)))∨
 ∃kvs k b,H a=some (.dT kvs)∧y= .ref b∧H b=some (.tup (k.map kV))∧kvs.length<Av∧H'=Hh H a (.dT (HU kvs k v))
theorem DGet.k{kvs:List (HD×V)}{k:HD}(e:H a=some (.dK kvs)):DGet H a (kV k) (HH kvs k):= .inl ⟨kvs,k,.inl e,rfl,rfl⟩
theorem DPut.k{kvs:List (HD×V)}{k:HD}{v:V}(e:H a=some (.dK kvs))(hl:kvs.length<Av):DPut H a (kV k) v (Hh H a (.dK (HU kvs k v))):= .inl ⟨kvs,k,e,rfl,hl,rfl⟩
section
variable{y v:V}{r:Value}{o:Option V}
theorem Inv.big(I:Inv X pins σ H s):C6<s.heap.objs.size:=by have h:AK<s.heap.objs.size:=(I.mod.glob.keeps I.bk).lt;exact Cd (by decide) h
theorem VS{Q:Value→Shared→Prop}(hu:A.units+1<cLine)(I:Inv X pins σ H s)(g:DGet H a y (some v))(ry:RelV y u)(h:∀w' s',Inv X pins σ H s'→RelV v w'→Q w' s'):
 wpAny (model X.prog X.w) A (getItem (.ref a) u) Q E s:=by
 rcases g with⟨kvs,k,e,ey,l⟩ | ⟨kvs,k,b,e,ey,eb,l⟩
 · subst ey;obtain⟨z,hd,vs,rel,dd⟩:=LM I.hok e;obtain⟨w',hw,rw'⟩:=RelO.some_of (v:=v) (o:=valueAt vs k) (by rw[l];exact rel.val k);exact wpAny_getItem_of (LQ ry) dd.mapOf hw (h w' _ (I.tok _) rw')
 · subst ey;cases(show u=Value.ref b from ry);obtain⟨z,hd,xs,rel,dd⟩:=LN I.hok e;obtain⟨w',hw,rw'⟩:=RelO.some_of (v:=v) (o:=(atKey xs k).map (·.2)) (by rw[l];exact rel.val k);obtain⟨p,hp,hp2⟩:=Option.map_eq_some_iff.mp hw;refine wpAny_getItem_heap (tupleKind_room_in1 hu) (MW I.hok eb) dd hp ?_;rw[hp2];exact h w' _ (I.tok _) rw'
theorem N_{h':Heap}{t':Nat}{ob:HO}(I:Inv X pins σ H s)(mu:MK (H a))(hs:Bp a s.heap h')(he:∃q,h'.get? a=some q)(new:ObjOk X.prog X.w (Hh H a ob) h' a ob):
 Inv X pins σ (Hh H a ob) {s with heap:=h',toks:=t'}:=
 I.write (x:=a) (e:=a) mu (.inl rfl) (λb q hb z=>(hs.2 b hb).trans z) he new
theorem Q6{H':Hp}{h':Heap}{kvs:List (HD×V)}{vs:List (HD×Value)}(z:kvs.length≤Av)(hd:(a==C6)=false)(rel:KV kvs vs)(dd:h'.DictOf (Ja P w) a vs):
 ObjOk P w H' h' a (.dK kvs):=⟨z,hd,vs,rel,dd⟩
theorem VT{H':Hp}{Q:Unit→Shared→Prop}(hu:A.units+1<cLine)(I:Inv X pins σ H s)(g:DPut H a y v H')(ry:RelV y u)(rv:RelV v r)(h:∀s',Inv X pins σ H' s'→Q () s'):
 wpAny (model X.prog X.w) A (setItem (.ref a) u r) Q E s:=by
 rcases g with⟨kvs,k,e,ey,l,eH⟩ | ⟨kvs,k,b,e,ey,eb,l,eH⟩
 · subst ey eH;obtain⟨z,hd,vs,rel,dd⟩:=PQ I.hok e;have hz:vs.length≤Av:=by rw[←rel.length];exact z
   have hl:(HU kvs k v).length≤Av:=by have:=Nl kvs k v;omega
   refine wpAny_setItem_pairs (hsz:=hz) (LQ ry) dd λh' dd' hs=>h _ ?_;have he:∃q,h'.get? a=some q:=let⟨q,_,_,hq,_⟩:=dd';⟨q,hq⟩;exact N_ I (by rw[e];exact True.intro) hs he (Q6 hl hd (rel.put k rv) dd')
 · subst ey eH;cases(show u=Value.ref b from ry);obtain⟨z,hd,xs,rel,dd⟩:=T8 I.hok e;have hz:xs.length≤Av:=by rw[←EC rel];exact z
   have hl:(HU kvs k v).length≤Av:=by have:=Nl kvs k v;omega
   refine wpAny_setItem_heap (hsz:=hz) (tupleKind_room_in1 hu) (MW I.hok eb) dd λh' dd' hs=>h _ ?_;obtain⟨q,es,ep,hq,h2,h3,h4,_,h5⟩:=dd';refine N_ I (by rw[e];exact True.intro) hs ⟨q,hq⟩ ⟨hl,hd,_,(rel.put k eb rv).keeps λc ys ec=>?_,q,es,ep,hq,h2,h3,h4,h5⟩;rw[HC (JX ec e (λz=>nomatch z))];exact ec
end
section
variable{kvs:List (HD×V)}{k:HD}
end
def MJ(i:Expr):Prop:=∀ov iv,subscripted i false ov iv=operate [ov,iv] (getItem ov iv)
theorem Uz{prog:Bt}{w:World}{A:Cy}{E:Value→Shared→Prop}{s:Shared}{env:Env}{value slice:Expr}{pos:Pos}{T id:String}{Q:Value→Shared→Prop}
 (hl:typeLookup (.type T) "__getitem__"=pure (some (.builtin id))) (hs:MJ slice)
 (h:wpAny (model prog w) A (eval value env) (λo s₁=>wpAny (model prog w) A (eval slice env) (λi s₂=>s₂.TypeIs o T∧wpAny (model prog w) A (getItem o i) Q E s₂) E s₁) E s):
 wpAny (model prog w) A (eval (.Subscript value slice pos) env) Q E s:=by
 refine Subscript_ (AA h (λo s₁ h₁=>AA h₁ (λi s₂ h₂=>?_) λ_ _ x=>x) λ_ _ x=>x);obtain⟨hT,h₂⟩:=h₂;unfold subscriptTail;refine Aa ?_;rw[getitemInPython_of_ne hT.not_modules];refine Aa (Eh hT hl ?_);have fin:wpAny (model prog w) A (subscripted slice false o i) (λr s₃=>wpAny (model prog w) A (letTemporaryGo value o r>>=λ_=>pure r) Q E s₃) E s₂:=by rw[hs o i];exact wpAny_operating (AA h₂ (λr s₃ h₃=>Aa (wpAny_letTemporaryGo (Ac h₃))) λ_ _ x=>x)
 first
  | exact Ac (Aa fin)
  | exact Aa (Ac (Aa fin))
  | exact Aa fin
theorem X2{y:V}{o:Option V}(I:Inv X pins σ H s)(g:DGet H a y o):s.TypeIs (.ref a) "dict":=by
 rcases g with⟨kvs,k,e,_,_⟩ | ⟨kvs,k,b,e,_,_,_⟩
 · obtain⟨_,_,vs,_,dd⟩:=LM I.hok e;exact dd.typeIs
 · obtain⟨_,_,xs,_,dd⟩:=LN I.hok e;exact dd.typeIs
def TQ(td ty:TE):TE:=λσ H Q=>td σ H λx H1=>ty σ H1 λy H2=>∃a v,x= .ref a∧DGet H2 a y (some v)∧Q v H2
def TM(td ty tv:TE):TS:=λD σ H=>tv σ H λv H1=>td σ H1 λx H2=>ty σ H2 λy H3=>∃a H4,x= .ref a∧DPut H3 a y v H4∧D.nx σ H4
section
variable{o i value:Expr}{pos' tpos:Pos}{td ty tv:TE}
theorem QY(hu:X.A.units+1<cLine)(ho:PE X o td)(hi:PE X i ty)(hs:MJ i):PE X (.Subscript o i pos) (TQ td ty):=by intro pins s σ H Q I h;refine Uz PySem.F.slot_dict_getitem.lookup hs (Hj (ho pins s σ H _ I h) λu s1 ⟨x,H1,I1,rx,q1⟩=>Hj (hi pins s1 σ H1 _ I1 q1) λiv s2 ⟨y,H2,I2,ry,a,v,ex,g,q2⟩=>?_);subst ex;obtain rfl:u=Value.ref a:=rx;exact⟨X2 I2 g,VS hu I2 g ry λw' s3 I3 rw'=>⟨v,H2,I3,rw',q2⟩⟩
theorem Ul(hu:X.A.units+1<cLine)(ho:PE X o td)(hi:PE X i ty)(hv:PE X value tv)(hs:swapsWith value (some (.Subscript o i pos')) pos.line X.env=pure false):
 PS X (.Assign [.Subscript o i pos'] value pos) (TM td ty tv):=by
 intro pins s σ H D I h;refine wpAny_Assign_Subscript (Hj (hv pins s σ H _ I h) λr s1 ⟨v,H1,I1,rv,q1⟩=>Hj (ho pins s1 σ H1 _ I1 q1) λu s2 ⟨x,H2,I2,rx,q2⟩=>Hj (hi pins s2 σ H2 _ I2 q2) λiv s3 ⟨y,H3,I3,ry,a,H4,ex,g,q3⟩=>?_) hs;subst ex;obtain rfl:u=Value.ref a:=rx;exact VT hu I3 g ry rv λs4 I4=>⟨σ,H4,I4,q3⟩
end
theorem US(h:Heap)(hb:C6<h.objs.size):ObjOk P w H (h.push {cls:= .type "dict",data:= .dict #[]}) h.objs.size (.dK []):=
 ⟨Bo _,beq_eq_false_iff_ne.mpr (By (Ar hb)),[],.nil,Heap.DictOf.new h⟩
structure M1(X:Cx)(o:Expr)(m:Str)(apos:Pos)(e:Expr)(cpos:Pos):Prop where
 base:attributeBase o m X.env (eval o X.env)=eval o X.env
 few:((backTo cpos (AL [e] X.env)).all (λx=>!x.1) && (backToKw cpos (keywordEach [] X.env)).all (λx=>x.1.isSome)
  && decide (([e]:List Expr).length+([]:List Keyword).length+(if([]:List Keyword).isEmpty then 0 else 1)<30))=true
 line:(apos.endLine==cpos.line)=true
 trees:backTo cpos (AL [e] X.env)=[(false,eval e X.env)]
structure M2(X:Cx)(o:Expr)(m:Str)(apos:Pos)(e f:Expr)(cpos:Pos):Prop where
 base:attributeBase o m X.env (eval o X.env)=eval o X.env
 few:((backTo cpos (AL [e,f] X.env)).all (λx=>!x.1) && (backToKw cpos (keywordEach [] X.env)).all (λx=>x.1.isSome)
  && decide (([e,f]:List Expr).length+([]:List Keyword).length+(if([]:List Keyword).isEmpty then 0 else 1)<30))=true
 line:(apos.endLine==cpos.line)=true
 trees:backTo cpos (AL [e,f] X.env)=[(false,eval e X.env),(false,eval f X.env)]
def Tc(H:Hp)(a:Addr):Prop:=(∃kvs,Rd H a (.dK kvs))∨∃kvs,Rd H a (.dT kvs)
theorem Tj(I:Inv X pins σ H s)(d:Tc H a):
 s.TypeIs (.ref a) "dict"∧(∀b,Value.ref a= .ref b→∃ob,s.heap.get? b=some ob∧ob.dict=none)∧(a==C6)=false:=by
 rcases d with⟨kvs,e⟩ | ⟨kvs,e⟩
 · obtain⟨_,hd,vs,_,dd⟩:=LM I.hok e;refine⟨dd.typeIs,λb q=>?_,hd⟩;cases q;obtain⟨ob,_,_,h1,h2,_⟩:=dd;exact⟨ob,h1,h2.2.1⟩
 · obtain⟨_,hd,xs,_,dd⟩:=LN I.hok e;refine⟨dd.typeIs,λb q=>?_,hd⟩;cases q;obtain⟨ob,_,_,h1,h2,_⟩:=dd;exact⟨ob,h1,h2.2.1⟩
section
variable{y d:V}{r:Value}{o:Option V}
theorem Td{Q:Value→Shared→Prop}(hu:A.units+1<cLine)(I:Inv X pins σ H s)(g:DGet H a y o)(ry:RelV y u)(rd:RelV d r)(h:∀w' s',Inv X pins σ H s'→RelV (o.getD d) w'→Q w' s'):
 wpAny (model X.prog X.w) A (call (.builtin "dict.get") [.ref a,u,r]) Q E s:=by
 rcases g with⟨kvs,k,e,ey,l⟩ | ⟨kvs,k,b,e,ey,eb,l⟩
 · subst ey;obtain⟨z,hd,vs,rel,dd⟩:=LM I.hok e;refine call_meetsIn Ea dd.typeIs Fz (Fi _ _ _) (meets_dict_get_default (Ja X.prog X.w) a (LQ ry) hd r) ⟨_,dd.mapOf,h _ _ (I.tok _) ?_⟩;rw[l];exact(rel.val k).getD rd
 · subst ey;cases(show u=Value.ref b from ry);obtain⟨z,hd,xs,rel,dd⟩:=LN I.hok e;refine call_meetsIn Ea dd.typeIs Fz (Fi _ _ _) (meetsH_dict_get_default (tupleKind (Ja X.prog X.w)) a b hd r) ⟨tupleKind_room_in1 hu,k,xs,MW I.hok eb,dd,h _ _ (I.tok _) ?_⟩;rw[l];exact(rel.val k).getD rd
end
def U2(td ty tx:TE):TE:=λσ H Q=>td σ H λx H1=>∃a,x= .ref a∧Tc H1 a∧ty σ H1 λy H2=>tx σ H2 λz H3=>∃o,DGet H3 a y o∧Q (o.getD z) H3
section
variable{o f:Expr}{apos cpos:Pos}{td ty tx:TE}
theorem Rx(hu:X.A.units+1<cLine)(ho:PE X o td)(he:PE X e ty)(hf:PE X f tx)(m:M2 X o "get" apos e f cpos):PE X (.Call (.Attribute o "get" apos) [e,f] [] cpos) (U2 td ty tx):=by intro pins s σ H Q I h;refine wpAny_Call_method m.base m.few m.line PySem.F.plainAttrs_dict Ea PySem.F.type_dict_get (Hj (ho pins s σ H _ I h) λu s1 ⟨x,H1,I1,rx,a,ex,d,q1⟩=>?_);subst ex;obtain rfl:u=Value.ref a:=rx;obtain⟨t1,t2,_⟩:=Tj I1 d;refine⟨t1,t2,?_⟩;rw[m.trees];refine Fy rfl (FP (DD (Hj (he pins s1 σ H1 _ I1 q1) λiv s2 ⟨y,H2,I2,ry,q2⟩=> DD (Hj (hf pins s2 σ H2 _ I2 q2) λfv s3 ⟨z,H3,I3,rz,ov,g,q3⟩=>EN ?_))));exact Td hu I3 g ry rz λw' s4 I4 rw'=>⟨_,H3,I4,rw',q3⟩
end
section
variable{kvs:List (HD×V)}
end
section
variable{y:V}
end
end L2
namespace Att
open PySem PySem.W PySem.Calls PyProof.Rows
theorem Y4{P:Params}:∀(ns:List Int)(vs:List Value),WellAll P h vs (ns.map WData.int)→IntsAre vs ns:=by
 intro ns
 induction ns with
 | nil=> intro vs w;rw[DG] at w;cases w;exact .nil
 | cons n ns ih=>
  intro vs w;rw[Az] at w;cases w with
  | cons a b=> cases a;exact .cons _ _ (ih _ b)
theorem Wz{l:OpenLaw}(hn:l.most=some n){P:Params}{h:Heap}{args:List WData}{vals:List Value}
 (hpre:l.row.toRowW.claim.pre args=true) (hwl:WellAll P h vals args):
 ∃a vs ns,vals=[Value.ref a]∧args=[WData.list (ns.map WData.int)]∧h.get? a=some {cls:= .type "list",data:= .seq vs.toArray}∧IntsAre vs ns∧ns.length≤n:=by
 have hsh:WShape.hasAll [] args [.list .int]=true:=(pre_splitW hpre).1;have hc:l.pre.holds [] {args:=args}=true:=(pre_splitW hpre).2;obtain⟨d,r,rfl,h1,h2⟩:=hasAllW_cons hsh;obtain rfl:=hasAllW_nil h2;obtain⟨xs,rfl,h3⟩:=hasW_list h1;obtain⟨ns,rfl⟩:=items_int h3;have hlen:ns.length≤n:=by
  unfold OpenLaw.pre at hc;have h4:(WTm.not (.lt (.lit (.int (n:Int))) (.len (.arg 0)))).holds [] {args:=[.list (ns.map .int)]}=true:=by have h4:=(holds_andW hc).1;rw[hn] at h4;exact h4
  have h5:=condW_of h4 (w_not (w_lt w_lit (w_len_list (w_arg rfl))));rw[Ab] at h5;refine Nat.le_of_not_lt λq=>?_;have q':(n:Int)<((ns.length:Nat):Int):=by omega
  first
   | (rw[decide_eq_true q'] at h5;exact absurd h5 (by decide))
   | (simp at h5;omega)
 cases hwl with
 | cons w1 w2=>
  cases w2;cases w1 with
  | list ho hall=>exact⟨_,_,ns,rfl,rfl,ho,Y4 ns _ hall,hlen⟩
theorem Wr(l:OpenLaw)(args:List WData):l.row.toRowW.claim.post args (.bool true) args=true:=
 postW_of (r:=l.row.toRowW) (X:=(true==true))
  (show WShape.has [] (.bool true) .bool=true by first | rfl | decide | simp[WShape.has,WShape.arms,WShape.armsAll])
  (show(WTm.eq .res (.lit (.bool true))).value [] {args:=args,res:=some (.bool true),after:=args}=some (.bool (true==true)) from w_eq_bool (w_res rfl) w_lit) rfl
theorem attach_call{l:OpenLaw}{n:Nat}{q:Bt}{loose:List Str}{XP:(Str→Option Value)→Heap→Prop}{YP:World→Heap→Prop}{d:DefRec}
 (hn:l.most=some n) (hdf:d.params.defaults=[])
 (call:∀(w:World)(s₀ s₁:Shared)(mg mb:Str→Option Value)(fa:Addr)(o:Obj)(pm cd doc:Value)(a:Addr)(vs:List Value)(ns:List Int),
  Ground q loose [] XP w s₀ mg mb s₁.heap→YP w s₁.heap→
  s₁.heap.get? fa=some o→o.data= .func (docDef d.name d.params d.body d.scope pm cd doc)→s₁.heap.CodeRec cd d.name→mg d.name=some (.ref fa)→
  s₁.heap.get? a=some {cls:= .type "list",data:= .seq vs.toArray}→IntsAre vs ns→ns.length≤n→s₁.gens=#[]→
  codeAny (model l.prog w) callerA (.call (.ref fa) ⟨[.ref a],[]⟩) (λr s'=>r= .ok (.ret (.bool true))∧OldK s₁.heap s'.heap∧s'.os=s₁.os∧AllBare s'.gens) s₁):
 WalkO q loose XP YP l.row.toRowW d [] (λf vs=>PySem.call f vs):=by
 intro w s₀ s₁ mg mb G Y fa o pm cd doc dV kV ho hd hcd hD hmg hg args vals as hpre hlay hrd hwl hlo;obtain rfl:dV= .none:=Dflts.none hD hdf;obtain rfl:kV= .none:=Dflts.noKw hD;obtain⟨a,vs,ns,rfl,rfl,hobj,hints,hlen⟩:=Wz hn hpre hwl;refine enter_call (Cm (call w s₀ s₁ mg mb fa o pm cd doc a vs ns G Y ho (fd_plain hd) hcd hmg hobj hints hlen hg) λr s' hq=>?_);obtain⟨rfl,h2,h3,h4⟩:=hq;exact⟨.inl ⟨.bool true,.bool true,[],rfl,λ_=>rfl,.bool true,Wr l _,λ_=>⟨List.Pairwise.nil,λ_ hm=>(nomatch hm)⟩⟩,h2,h3,h4⟩
section
variable{K:Frag}
end
end Att
namespace L2
theorem RQ:∀{vs:List Value}{ns:List Int},IntsAre vs ns→Vals (ns.map V.int) vs
 | _,_,.nil=> .nil
 | _,_,.cons n t h=> .cons ⟨t,rfl⟩ (RQ h)
def Lx(H:Hp):Prop:=∀b,H b=none∨∃o xs,H b=some (.frz o (.lst xs))
theorem Vf{P:Bt}{w:World}{K:Ai}{mg mb:Str→Option Value}{CX:JT}{k:Nat}{fa a:Addr}{fd:BA}{x:Str}{sp:Sp}{s₁:Shared}{vs:List Value}{ns:List Int}
 (KX:K.In s₁.heap) (hns:s₁.heap.Ns AK mg) (hb:s₁.heap.Ns builtinsNs mb) (hbb:∀x:Str,x≠"__name__"→mb x=Bd x) (hlim:s₁.heap.NoLimit) (hg:s₁.gens=#[])
 (ha:s₁.heap.get? a=some {cls:= .type "list",data:= .seq vs.toArray}) (hi:IntsAre vs ns) (hl:ns.length≤Av) (hr:Room k callerA)
 (F:∀base:Heap,K.In base→base.Ns AK mg→FnOk P w K mg base CX k fa fd [x] sp) (hbind:∀(s:Shared)(u:Value),BindsTo s fd ⟨[u],[]⟩ [(x,u)])
 (hsp:∀H:Hp,Lx H→SqL K H a (ns.map V.int)→sp [.ref a] H (λv _=>v= .bl true) λ_ _ _=>False)
 (hCX:∀H e s',CX [] H s₁ (λ_ _ _=>False) e s'→False):
 codeAny (model P w) callerA (.call (.ref fa) ⟨[.ref a],[]⟩) (λr s'=>r= .ok (.ret (.bool true))∧OldK s₁.heap s'.heap∧s'.os=s₁.os∧AllBare s'.gens) s₁:=by
 have rv:=RQ hi;have lenV:=hi.length;have core:∀H:Hp,Lx H→SqL K H a (ns.map V.int)→HOk P w H s₁.heap→(∀b,H b≠none→b=a)→(H a≠none→K.lookup a=none)→
  codeAny (model P w) callerA (.call (.ref fa) ⟨[.ref a],[]⟩) (λr s'=>r= .ok (.ret (.bool true))∧OldK s₁.heap s'.heap∧s'.os=s₁.os∧AllBare s'.gens) s₁:=by
  intro H hO hS hok hA hK;have base_of:∀{b:Addr}{o:Obj},s₁.heap.get? b=some o→H b=none→(Jb s₁.heap H).get? b=some o:=λe n=>Vc e n;have noA:∀{b:Addr}{o:Obj}{es:Array DictEntry}{ep:Nat},s₁.heap.get? b=some o→o.data= .dict es ep→H b=none:=λ{b o es ep}e d=>by
   cases q:H b with
   | none=>rfl
   | some u=> have e':b=a:=hA b (by rw[q];simp);subst e';rw[ha] at e;cases e;have d':Data.seq vs.toArray _=Data.dict es ep:=d;cases d'
  have nsK:∀{b:Addr}{m:Str→Option Value},s₁.heap.Ns b m→(Jb s₁.heap H).Ns b m:=λ{b m} ⟨o,es,ep,e,d,r⟩=>⟨o,es,ep,base_of e (noA e d),d,r⟩;have hKb:K.In (Jb s₁.heap H):=λb o e=>base_of (KX b o e) (by
   cases q:H b with
   | none=>rfl
   | some u=> have e':b=a:=hA b (by rw[q];simp);subst e';rw[hK (by rw[q];simp)] at e;cases e)
  have hM:Mod K mg (Jb s₁.heap H):=⟨hKb,nsK hns,⟨mb,nsK hb,hbb⟩,let⟨mc,h1,h2⟩:=hlim;⟨mc,nsK h1,h2⟩⟩;have e0:Env0 P w K mg (Jb s₁.heap H) callerA [] s₁ H:=⟨rfl,hM,λb o e=>Ug e,Nat.le_of_eq (V5 _ _),trivial,λb hb=>absurd (show b∈([]:List Addr) from hb) (by simp),hok,.of_eq hg⟩;refine Cm ((F _ hKb (nsK hns)).run callerA [] s₁ H ⟨[.ref a],[]⟩ [.ref a] [.ref a] _ _ hr e0 (hbind s₁ (.ref a)) (.cons rfl .nil) (hsp H hO hS)) λr s' h=>?_;cases r with
  | error e=>exact(hCX H e s' h).elim
  | ok fl=>
   cases fl with
   | next=>exact Dc h
   | brk=>exact Dc h
   | cont=>exact Dc h
   | ret u=>
    obtain⟨v,H',os,bare,un,hok',r',q⟩:=h;have q':v= .bl true:=q;subst q';obtain rfl:u=Value.bool true:=r';refine⟨rfl,OldK.of_keep λb o e=>?_,os,bare⟩;cases q:H b with
    | none=>exact un.keep b o e q (by intro z;exact absurd (show b∈([]:List Addr) from z) (by simp)) (by simp)
    | some u=>
     rcases hO b with z | ⟨ob,xs,z⟩
     · rw[q] at z;cases z
     · have z2:=un.frzs b ob _ z;obtain⟨e1,_⟩:=hok b _ z;obtain⟨e2,_⟩:=hok' b _ z2;rw[e] at e1;cases e1;exact e2
 cases hk:K.lookup a with
 | some o=> have e:=KX a o hk;rw[ha] at e;cases e;refine core (λ_=>none) (λ_=> .inl rfl) (.inr ⟨_,vs.toArray,_,hk,rfl,rfl,rfl,by rw[Aw,lenV];exact hl,by simpa using rv⟩) (λb u z=>by have z':(none:Option HO)=some u:=z;cases z') (λb z=>absurd rfl z) λz=>absurd rfl z
 | none=>
  refine core (λb=>if b=a then some (.frz {cls:= .type "list",data:= .seq vs.toArray} (.lst (ns.map V.int))) else none) (λb=>?_) (.inl (.inr ⟨{cls:= .type "list",data:= .seq vs.toArray},if_pos rfl⟩)) (λb u z=>?_) (λb z=>?_) λ_=>hk
  · by_cases hb:b=a
    · exact .inr ⟨_,_,if_pos hb⟩
    · exact .inl (if_neg hb)
  · by_cases hb:b=a
    · have z':=(if_pos hb).symm.trans z;cases z';subst hb;exact⟨ha,by rw[Ab];exact hl,vs,_,rv,ha⟩
    · have z':=(if_neg hb).symm.trans z;cases z'
  · by_cases hb:b=a
    · exact hb
    · exact absurd (if_neg hb) z
abbrev KOf{K:Ai}{h:Heap}(_:K.In h):Ai:=K
theorem walk_of{l:Fo}{n k:Nat}{q:Bt}{loose:List Str}{XP:(Str→Option Value)→Heap→Prop}{YP:World→Heap→Prop}{d:DefRec}{K:Params→Ai}{CX:World→JT}{sp:World→Sp}{x:Str}
 (hn:l.most=some n) (hn2:n≤Av) (hdf:d.params.defaults=[]) (hr:Room k callerA)
 (hY:∀(w:World)(h:Heap),YP w h→(K w.params).In h)
 (F:∀(w:World)(mg:Str→Option Value)(fa:Addr)(h:Heap),(K w.params).In h→h.Ns AK mg→mg d.name=some (.ref fa)→
  ∃fd:BA,(∀(s:Shared)(u:Value),BindsTo s fd ⟨[u],[]⟩ [(x,u)])∧
   ∀base:Heap,(K w.params).In base→base.Ns AK mg→FnOk l.prog w (K w.params) mg base (CX w) k fa fd [x] (sp w))
 (hsp:∀(w:World)(H:Hp)(a:Addr)(ns:List Int),ns.length≤n→Lx H→SqL (K w.params) H a (ns.map V.int)→sp w [.ref a] H (λv _=>v= .bl true) λ_ _ _=>False)
 (hCX:∀(w:World)(H:Hp)(s:Shared)(e:Value)(s':Shared),CX w [] H s (λ_ _ _=>False) e s'→False):
 PySem.W.WalkO q loose XP YP l.row.toRowW d [] (λf vs=>PySem.call f vs):=by
 refine Att.attach_call hn hdf λw s₀ s₁ mg mb fa o pm cd doc a vs ns G Y ho hd hcd hmg hobj hints hlen hg=>?_;have KX:=hY w _ Y;obtain⟨fd,hb,hF⟩:=F w mg fa _ KX G.T.g hmg;exact Vf KX G.T.g G.T.b G.T.builtins G.T.nolimit hg hobj hints (AT hlen hn2) hr hF hb (λH hO hS=>hsp w H a ns hlen hO hS) λH e s'=>hCX w H s₁ e s'
def JI(s:Stmt):Arguments:=match s with
 | .FunctionDef _ a _ _ _ _ _ _ _ _=>a
 | _=>{posonlyargs:=[],args:=[],vararg:=none,kwonlyargs:=[],kw_defaults:=[],kwarg:=none,defaults:=[]}
def J8(s:Stmt):List Stmt:=match s with
 | .FunctionDef _ _ b _ _ _ _ _ _ _=>b
 | _=>[]
def Hy(s:Stmt):Scope:=match s with
 | .FunctionDef _ _ _ _ _ _ sc _ _ _=>sc
 | _=>{kind:= .function,names:=[],isGenerator:=false,isCoroutine:=false}
abbrev HJ:JT:=λ_ _ _ _ _ _=>False
abbrev E0:XK:=λ_ _ _=>False
theorem PY:NP HJ X E0:=λ_ _ _ _ _ _ _ h=>h.elim
structure Fun(K:Ai)(x qual:Str)(st:Stmt)(f:Addr)(fd:BA):Prop where
 ex:∃(oc:Value)(od:Option Addr)(kV doc pm:Value)(an:Option Addr)(cdv ct:Value)(osl:Array (Option Value)),
  fd=C8 x qual (JI st) (J8 st) (Hy st) .none kV doc pm an cdv ct∧K.lookup f=some ⟨oc,od,.func fd,osl⟩∧DL K cdv qual=true
 kp:Df K (.ref f)=true
section
variable{mg:Str→Option Value}{base:Heap}
theorem Fun.ok{qual:Str}{st:Stmt}{f:Addr}{fd:BA}{N ps:List Str}{k:Nat}{sp:Sp}(F:Fun K x qual st f fd)(S:FnScope N ps (Hy st))(len:∀vs H Q E,sp vs H Q E→vs.length=ps.length)
 (hbody:∀(cdv:Value)(A:Cy)(outer:List Env)(s:Shared)(H:Hp)(vs:List V)(Q:VK)(E:XK),Room k (A.deeper (envOfC qual (Hy st) s.heap.objs.size f cdv))→sp vs H Q E→
  ∃t,PSs (J4 HJ P w K mg base N qual (Hy st) f cdv A outer s H E).nox (J8 st) t∧t {nx:=λ_ H'=>Q .non H',rt:=Q} (Kr N vs) H):FnOk P w K mg base HJ (k+1) f fd ps sp:=by
 obtain⟨oc,od,kV,doc,pm,an,cdv,ct,osl,rfl,lk,hcd⟩:=F.ex;refine PR lk hcd S len λA outer s H vs Q E hr hsp=>?_;obtain⟨t,h,q⟩:=hbody cdv A outer s H vs Q E hr hsp;exact⟨t,h.nox,q⟩
theorem Fun.binds{qual:Str}{st:Stmt}{f:Addr}{fd:BA}{ps:List Str}(F:Fun K x qual st f fd)
 (h:∀(kV doc pm:Value)(an:Option Addr)(cdv ct:Value)(us:List Value),us.length=ps.length→bindArgs (C8 x qual (JI st) (J8 st) (Hy st) .none kV doc pm an cdv ct) ⟨us,[]⟩=pure (ps.zip us)):Binds K fd ps []:=by
 obtain⟨oc,od,kV,doc,pm,an,cdv,ct,osl,rfl,lk,hcd⟩:=F.ex;exact .all (h kV doc pm an cdv ct)
theorem fun_mk{qual:Str}{st:Stmt}{f:Addr}{oc:Value}{od an:Option Addr}{osl:Array (Option Value)}{kV doc pm cdv ct:Value}(l:K.lookup f=some ⟨oc,od,.func (C8 x qual (JI st) (J8 st) (Hy st) .none kV doc pm an cdv ct),osl⟩)
 (c:DL K cdv qual=true) (k:Df K (.ref f)=true):Fun K x qual st f (C8 x qual (JI st) (J8 st) (Hy st) .none kV doc pm an cdv ct):=⟨⟨oc,od,kV,doc,pm,an,cdv,ct,osl,rfl,l,c⟩,k⟩
end
theorem LP{k:Nat}(hr:Room k A):A.units+1<cLine:=BW (F_ (by decide:1≤64) _) hr.units
theorem IB(h:n≤1000):n<Av:=BW h (by decide)
theorem pv(i:Nat){pos:Pos}(hN:X.N[i]?=some x:=by rfl)(hv:MG X.env.scope x:=by first | exact Or.inl rfl | exact Or.inr (Or.inl rfl) | exact Or.inr (Or.inr rfl))(hd:(x==("__debug__":Str))=false:=by decide)
 (hcd:(x==("__classdict__":Str))=false:=by decide):PE X (.Name x pos) (IP i):=Tz hN hv hd hcd
theorem Hs{A B:Prop}(h:B):if false=true then A else B:=by rw[if_neg Ax];exact h
theorem Hr{A B:Prop}(h:A):if true=true then A else B:=by rw[if_pos rfl];exact h
theorem HI{c A B:Prop}[Decidable c](h1:c→A)(h2:¬c→B):if c then A else B:=by
 by_cases h:c
 · rw[if_pos h];exact h1 h
 · rw[if_neg h];exact h2 h
theorem PV{c A B:Prop}[Decidable c](hc:c)(h:B):if(!decide c)=true then A else B:=by rw[decide_eq_true hc];exact Hs h
def Same(H H':Hp):Prop:=∀b o,H b=some o→H' b=some o
theorem Same.refl(H:Hp):Same H H:=λ_ _ h=>h
theorem Same.trans{H1 H2:Hp}(a:Same H H1)(b:Same H1 H2):Same H H2:=λc o h=>b c o (a c o h)
theorem Same.free{H':Hp}(e:Same H H'){l:Addr}(h:H' l=Option.none):H l=Option.none:=by
 cases q:H l with
 | none=>rfl
 | some o=> rw[e l o q] at h;cases h
theorem Same.seq{H':Hp}(e:Same H H')(h:SqL K H a xs):SqL K H' a xs:=by
 rcases h with(h | ⟨o,h⟩) | h
 · exact .inl (.inl (e _ _ h))
 · exact .inl (.inr ⟨o,e _ _ h⟩)
 · exact .inr h
section
variable{κ:Type}[DecidableEq κ]
theorem QW:∀{l:List κ}{k:κ},l.Nodup→¬k∈l→(l++[k]).Nodup
 | [],k,_,_=>by simp
 | a::r,k,h,hk=>by
  obtain⟨h1,h2⟩:=D7.mp h;show(a::(r++[k])).Nodup;refine List.nodup_cons.mpr ⟨λm=>?_,QW h2 λm=>hk (List.mem_cons.mpr (Or.inr m))⟩;rcases As.mp m with q | q
  · exact h1 q
  · exact hk (List.mem_cons.mpr (Or.inl (Ae.mp q).symm))
end
def HM(X:Cx)(N':List Str)(scope:Scope)(cl:List (Str×Addr))(C:Addr)(s₀:Shared)(H₀:Hp)(ex:List Addr):Cx:=
 {prog:=X.prog,w:=X.w,K:=X.K,mg:=X.mg,base:=X.base,A:=X.A,N:=N',s₀:=s₀,H₀:=H₀,env:=compEnvC scope cl C X.env,outer:=X.stack,stack:=X.stack,ex:=ex,fn:=λx=>scope.names.lookup x==some .cell,calm:=X.calm,pn:=[],xe:=λ_ _=>False}
abbrev Im:=List (Option Nat)
def IJ(js:Im)(σ:St):St:=js.map λo=>o.bind λj=>(σ[j]?).join
theorem UD{env:Env}(has:∀x,(env.kindOf x=some .cell∨env.kindOf x=some .free)→∃c,env.cells.lookup x=some c):
 ∀(names:List (Str×NameKind))(acc:List (Str×Addr)),(∀p∈names,p.2= .free→env.kindOf p.1=some .cell∨env.kindOf p.1=some .free)→(∀x c,acc.lookup x=some c→env.cells.lookup x=some c)→
  ∃cl,(forIn names acc (λ(p:Str×NameKind)(cs:List (Str×Addr))=>(do
   if p.2==NameKind.free then
    let c ←cellOf env p.1
    pure (ForInStep.yield ((p.1,c)::cs))
   else pure (ForInStep.yield cs):Sem (ForInStep (List (Str×Addr))))))=pure cl∧(∀x c,cl.lookup x=some c→env.cells.lookup x=some c)∧
   (∀x,(acc.lookup x).isSome=true→(cl.lookup x).isSome=true)∧∀p∈names,p.2= .free→(cl.lookup p.1).isSome=true:=by
 intro names
 induction names with
 | nil=>intro acc _ ha;exact⟨acc,rfl,ha,λ_ h=>h,λ_ h=>nomatch h⟩
 | cons p r ih=>
  intro acc hn ha;obtain⟨n,k⟩:=p;rw[Fp];by_cases hk:k= .free
  · subst hk;obtain⟨c,hc⟩:=has n (hn (n,.free) AD rfl);have e:cellOf env n=(pure c:Sem Addr):=by
     unfold cellOf;rw[hc]
    obtain⟨cl,h1,h2,h3,h4⟩:=ih ((n,c)::acc) (λq hq=>hn q (AE _ hq)) (λx c' hx=>by
     rw[Co] at hx;cases hb:x==n with
     | true=> rw[hb] at hx;cases hx;rw[show x=n from eq_of_beq hb];exact hc
     | false=> rw[hb] at hx;exact ha x c' hx)
    refine⟨cl,?_,h2,λx hx=>h3 x ?_,λq hq hf=>?_⟩
    · simp only[beq_self_eq_true,if_true,e];exact h1
    · rw[Co];cases hb:x==n with
      | true=>rfl
      | false=>exact hx
    · rcases Al.mp hq with rfl | hq
      · exact h3 _ (by simp[Co])
      · exact h4 q hq hf
  · have hb:(k==NameKind.free)=false:=by simpa using hk
    obtain⟨cl,h1,h2,h3,h4⟩:=ih acc (λq hq=>hn q (AE _ hq)) ha;refine⟨cl,?_,h2,h3,λq hq hf=>?_⟩
    · simp only[hb,BH,if_false];exact h1
    · rcases Al.mp hq with rfl | hq
      · exact absurd hf hk
      · exact h4 q hq hf
theorem Ma{env:Env}{scope:Scope}(has:∀x,(env.kindOf x=some .cell∨env.kindOf x=some .free)→∃c,env.cells.lookup x=some c)
 (hn:∀p∈scope.names,p.2= .free→env.kindOf p.1=some .cell∨env.kindOf p.1=some .free):
 ∃cl,closureFor scope env=pure cl∧(∀x c,cl.lookup x=some c→env.cells.lookup x=some c)∧∀p∈scope.names,p.2= .free→(cl.lookup p.1).isSome=true:=by
 obtain⟨cl,h1,h2,_,h4⟩:=UD has scope.names [] hn (λ_ _ h=>nomatch h);refine⟨cl,?_,h2,h4⟩;unfold closureFor;show(do let cs ←forIn scope.names [] _;pure cs)=_
 refine Eq.trans ?_ h1;simp only[bind_pure]
section
variable{R:Result→Shared→Prop}
theorem X0{elt target iter:Expr}{ifs:List Expr}{scope:Scope}{pos:Pos}{it acc:Value}{env:Env}(I:Nat→Shared→Prop)
 (turn:∀n s,I n s→wpAny (model prog w) A (pyNext it) (λr s₁=>match r with
  | none=>R (.ok .next) s₁
  | some v=>wpAny (model prog w) A (Bz target it v) (λ_ s₁'=>wpAny (model prog w) A (assign target env v) (λ_ s₂=>
   wpAny (model prog w) A (forIn ifs true λc r=>if r=true then do let ok ←isTrue c env (eval c env);pure (ForInStep.yield ok) else pure (ForInStep.yield r)) (λok s₃=>
    if ok=true then wpAny (model prog w) A (eval elt env) (λx s₄=> wpAny (model prog w) A (call (.builtin "list.append") [acc,x]) (λ_ s₅=>∃m,m<n∧I m s₅) (λ_ _=>False) s₄) (λ_ _=>False) s₃
    else ∃m,m<n∧I m s₃) (λ_ _=>False) s₂) (λ_ _=>False) s₁') (λ_ _=>False) s₁) (λ_ _=>False) s)
 (n:Nat) (h:I n s):
 codeAny (model prog w) A (.compLoop (.ListComp elt [⟨target,iter,ifs,0⟩] scope pos) 0 it acc env) R s:=by
 refine DH rfl I (λn s hI=>?_) n h;show wpAny _ A ((compTurn (.ListComp elt [⟨target,iter,ifs,0⟩] scope pos) 0 it acc env).onRaise (λx=>do noteFrame x env;theTreesLotGoes x)) _ _ s
 refine DR ?_;rw[compTurn_list];refine Aa (Bm (Aa (AA (turn n s hI) (λr s₁ h₁=>?_) λ_ _ h'=>h'.elim)));cases r with
 | none=>exact Ac h₁
 | some v=>
  refine Aa (AA h₁ (λ_ s₁' h₁'=>?_) λ_ _ h'=>h'.elim);refine Aa (AA h₁' (λ_ s₂ h₂=>Aa (AA h₂ (λok s₃ h₃=>?_) λ_ _ h'=>h'.elim)) λ_ _ h'=>h'.elim);cases ok with
  | false=>exact Ac ⟨rfl,h₃⟩
  | true=> exact Aa (Aa (AA h₃ (λx s₄ h₄=>Aa (AA h₄ (λ_ s₅ h₅=>Ac (Ac ⟨rfl,h₅⟩)) λ_ _ h'=>h'.elim)) λ_ _ h'=>h'.elim))
end
def HP(X:Cx)(ifs:List Expr)(t:TT):Prop:=
 ∀(pins:List (Addr×Obj))(s:Shared)(σ:St)(H:Hp)(Q:Bool→Hp→Prop),Inv X pins σ H s→t σ H Q→
  wpAny (model X.prog X.w) X.A (forIn ifs true λc r=>if r=true then do let ok ←isTrue c X.env (eval c X.env);pure (ForInStep.yield ok) else pure (ForInStep.yield r)) (TP X pins σ Q) X.xe s
def Jl:TT:=λ_ H Q=>Q true H
theorem Jg:HP X [] Jl:=λ_ _ _ H _ I h=>wpAny_tests_nil ⟨H,I,h⟩
theorem LF{c:Expr}{t:TT}(h:PT X c t):HP X [c] t:=λpins s σ H Q I hw=>wpAny_tests_one (h pins s σ H Q I hw)
def JF(J:It)(p:Addr)(js:Im)(g:TG)(tc:TT)(te:TE)(σ:St)(H:Hp)(Q:VK):Prop:=
 ∃W:Nat→Nat→St→List V→Hp→Prop,(∃m,W 0 m (IJ js σ) [] (Hh H p (.lst [])))∧∀i m σ' ys H,W i m σ' ys H→H p=some (.lst ys)∧
  ((J.stop i H∧Q (.ref p) H)∨(J.go i H∧ys.length<Av∧∀x H',J.yld i H x H'→g x σ' H' λσ2 H2=>tc σ2 H2 λb H3=>
    if b=true then te σ2 H3 λy H4=>H4 p=some (.lst ys)∧∃m',m'<m∧W (i+1) m' σ2 (ys++[y]) (Hh H4 p (.lst (ys++[y])))
    else ∃m',m'<m∧W (i+1) m' σ2 ys H3))
def SW(wi:TI)(js:Im)(g:TG)(tc:TT)(te:TE):TE:=λσ H Q=>wi σ H λJ H1=>∀p,H1 p=none→JF J p js g tc te σ H1 Q
structure CapOk(X:Cx)(N':List Str)(js:Im)(scope:Scope):Prop where
 len:js.length=N'.length
 kind:scope.kind= .function
 cells:∀p∈scope.names,p.2= .cell→scope.names.lookup p.1=some .cell
 names:∀p∈scope.names,p.2= .local→scope.names.lookup p.1=some .local
 free:∀p∈scope.names,p.2= .free→X.env.kindOf p.1=some .cell∨X.env.kindOf p.1=some .free
 cap:∀(i j:Nat),js[i]?=some (some j)→∃x,N'[i]?=some x∧X.N[j]?=some x∧scope.names.lookup x=some .free
theorem O4{names:List (Str×NameKind)}{k:NameKind}(h:names.lookup x=some k):(x,k)∈names:=by
 induction names with
 | nil=>cases h
 | cons p r ih=>
  obtain⟨n,k'⟩:=p;rw[Co] at h;cases hb:x==n with
  | true=> rw[hb] at h;cases h;rw[show x=n from eq_of_beq hb];exact AD
  | false=> rw[hb] at h;exact AE _ (ih h)
theorem SK{env:Env}{k:NameKind}(h:(relabel scope env).names.lookup x=some k):∃k0,scope.names.lookup x=some k0∧(k=k0∨(k0= .free∧k= .cell)):=by
 have go:∀(names:List (Str×NameKind)),(names.map λ(p:Str×NameKind)=>if(p.2==NameKind.free && env.scope.kind== .function && env.kindOf p.1==some .cell) then(p.1,NameKind.cell) else(p.1,p.2)).lookup x=some k→
  ∃k0,names.lookup x=some k0∧(k=k0∨(k0= .free∧k= .cell)):=by
  intro names
  induction names with
  | nil=>intro h;cases h
  | cons p r ih=>
   obtain⟨n,k'⟩:=p;intro h;rw[Az] at h;by_cases hc:(k'==NameKind.free && env.scope.kind== .function && env.kindOf n==some .cell)=true
   · rw[if_pos hc] at h;rw[Co] at h ⊢;cases hb:x==n with
     | true=>
      rw[hb] at h;cases h;have:k'= .free:=by cases k'<;>first | rfl | (simp at hc)
      exact⟨k',rfl,.inr ⟨this,rfl⟩⟩
     | false=> rw[hb] at h;exact ih h
   · rw[if_neg hc] at h;rw[Co] at h ⊢;cases hb:x==n with
     | true=> rw[hb] at h;cases h;exact⟨k',rfl,.inl rfl⟩
     | false=> rw[hb] at h;exact ih h
 exact go scope.names h
theorem Ye{env:Env}(h:scope.names.lookup x=some .free):(relabel scope env).names.lookup x=some .cell∨(relabel scope env).names.lookup x=some .free:=by
 have go:∀(names:List (Str×NameKind)),names.lookup x=some .free→(names.map λ(p:Str×NameKind)=>if(p.2==NameKind.free && env.scope.kind== .function && env.kindOf p.1==some .cell) then(p.1,NameKind.cell) else(p.1,p.2)).lookup x=some .cell∨
  (names.map λ(p:Str×NameKind)=>if(p.2==NameKind.free && env.scope.kind== .function && env.kindOf p.1==some .cell) then(p.1,NameKind.cell) else(p.1,p.2)).lookup x=some .free:=by
  intro names
  induction names with
  | nil=>intro h;cases h
  | cons p r ih=>
   obtain⟨n,k'⟩:=p;intro h;rw[Az];rw[Co] at h;by_cases hc:(k'==NameKind.free && env.scope.kind== .function && env.kindOf n==some .cell)=true
   · rw[if_pos hc,Co];cases hb:x==n with
     | true=>exact .inl rfl
     | false=> rw[hb] at h;exact ih h
   · rw[if_neg hc,Co];cases hb:x==n with
     | true=> rw[hb] at h;exact .inr h
     | false=> rw[hb] at h;exact ih h
 exact go scope.names h
theorem Nw:∀(names:List (Str×NameKind))(n:Nat)(acc:List (Str×Addr)),BV n names acc=BV n names []++acc
 | [],_,_=>rfl
 | (x,k)::r,n,acc=>by
  unfold BV
  split
  · rw[Nw r _ ((x,n)::acc),Nw r _ [(x,n)],Bn];rfl
  · exact Nw r n acc
theorem OP{c:Addr}:∀(names:List (Str×NameKind))(n:Nat)(acc:List (Str×Addr)),(x,c)∈BV n names acc→(x,NameKind.cell)∈names∨(x,c)∈acc
 | [],_,_,h=> .inr h
 | (y,k)::r,n,acc,h=>by
  unfold BV at h
  split at h
  · rename_i hk;rcases OP r _ _ h with z | z
    · exact .inl (AE _ z)
    · rcases Al.mp z with z | z
      · cases z;rw[show k= .cell from eq_of_beq hk];exact .inl AD
      · exact .inr z
  · rcases OP r _ _ h with z | z
    · exact .inl (AE _ z)
    · exact .inr z
structure OwnCells(scope:Scope)(cl0 cl:List (Str×Addr))(lo:Nat)(h₁:Heap):Prop where
 own:∀x c,cl.lookup x=some c→(scope.names.lookup x=some .cell→lo<c∧h₁.IsCell c none)∧(scope.names.lookup x≠some .cell→cl0.lookup x=some c)
 has:∀x,scope.names.lookup x=some .cell∨(cl0.lookup x).isSome=true→(cl.lookup x).isSome=true
 inj:∀x y c,scope.names.lookup x=some .cell→scope.names.lookup y=some .cell→cl.lookup x=some c→cl.lookup y=some c→x=y
theorem Nz{M:Model}{A:Cy}{E:Value→Shared→Prop}{s:Shared}{globals:Addr}{cl0:List (Str×Addr)}{qual:Str}{env:Env}{Q:Env→Shared→Prop}(ok:∀p∈scope.names,p.2= .cell→scope.names.lookup p.1=some .cell)
 (hQ:∀(cl:List (Str×Addr))(h₁:Heap),(∃m,h₁.Ns s.heap.objs.size m)→(∀b u,s.heap.get? b=some u→h₁.get? b=some u)→OwnCells scope cl0 cl s.heap.objs.size h₁→
  Q (newEnv scope s.heap.objs.size globals cl qual none .none (some env) builtinsNs) {s with heap:=h₁,toks:=s.toks+([]:List (Str×Value)).length}):
 wpAny M A (newFunctionEnv scope globals cl0 [] qual none .none (some env)) Q E s:=by
 simp only[newFunctionEnv,Option.isSome_some,if_true];refine Aa (wpAny_alloc ?_);refine Aa (wpAny_layCells _ (λname kind cells=>by cases hkc:kind==NameKind.cell<;>simp[hkc]) _ _ _ _ ?_);have ck:=cellsFrom_ok scope.names (s.heap.push {cls:= .type "dict",data:= .dict #[]}) (s.heap.objs.size+1) [] ⟨λ_ _ hm=>(nomatch hm),List.Pairwise.nil⟩ (by rw[Bk];exact Ag _);rw[Bk] at ck;rw[show({s with heap:=s.heap.push {cls:= .type "dict",data:= .dict #[]}}:Shared).heap.objs.size=s.heap.objs.size+1 from Bk ..]
 rw[F9];refine Aa (Ac (Ac ?_));rw[Nw];refine hQ _ _ ⟨_,(Heap.Ns.new s.heap (.type "dict")).keeps (pushCells_keeps _ _)⟩ (λb o e=>pushCells_keeps _ _ b o (Ad _ e)) ?_;have lk:∀x,(BV (s.heap.objs.size+1) scope.names []++cl0).lookup x=((BV (s.heap.objs.size+1) scope.names []).lookup x).or (cl0.lookup x):=λx=>List.lookup_append;have cn:∀x c,(BV (s.heap.objs.size+1) scope.names []).lookup x=some c→scope.names.lookup x=some .cell:=λx c e=>by
  rcases OP _ _ _ (mem_of_lookup e) with z | z
  · exact ok _ z rfl
  · cases z
 refine⟨λx c e=>⟨λhx=>?_,λhx=>?_⟩,λx hx=>?_,λx y c hx hy e1 e2=>?_⟩
 · rw[lk] at e;have q:=CM scope.names (s.heap.objs.size+1) [] (.inl hx);cases z:(BV (s.heap.objs.size+1) scope.names []).lookup x with
   | none=>rw[z] at q;cases q
   | some c'=> rw[z] at e;cases e;have:=ck.empty _ _ (mem_of_lookup z);exact⟨this.2,this.1⟩
 · rw[lk] at e;cases z:(BV (s.heap.objs.size+1) scope.names []).lookup x with
   | none=>rw[z] at e;exact e
   | some c'=>exact absurd (cn x c' z) hx
 · rw[lk];rcases hx with hx | hx
   · have q:=CM scope.names (s.heap.objs.size+1) [] (.inl hx);cases z:(BV (s.heap.objs.size+1) scope.names []).lookup x with
     | none=>rw[z] at q;cases q
     | some c'=>rfl
   · cases z:(BV (s.heap.objs.size+1) scope.names []).lookup x with
     | none=>exact hx
     | some c'=>rfl
 · rw[lk] at e1 e2;have go:∀x,scope.names.lookup x=some .cell→((BV (s.heap.objs.size+1) scope.names []).lookup x).or (cl0.lookup x)=some c→(x,c)∈BV (s.heap.objs.size+1) scope.names []:=λx hx e=>by
    have q:=CM scope.names (s.heap.objs.size+1) [] (.inl hx);cases z:(BV (s.heap.objs.size+1) scope.names []).lookup x with
    | none=>rw[z] at q;cases q
    | some c'=>rw[z] at e;cases e;exact mem_of_lookup z
   exact name_of_addr ck.apart (go x hx e1) (go y hy e2)
theorem Nt{N':List Str}{js:Im}{cl0 cl:List (Str×Addr)}{fp:List Addr}{h₁:Heap}{t':Nat}(ok:CapOk X N' js scope)(I:Inv X pins σ H s)
 (h2':∀x c,cl0.lookup x=some c→X.env.cells.lookup x=some c) (h3':∀p∈scope.names,p.2= .free→(cl0.lookup p.1).isSome=true)
 (hf:∀b∈fp,Hm X pins H b) (hlt:∀b∈fp,b<s.heap.objs.size)
 (k:∀b u,s.heap.get? b=some u→h₁.get? b=some u) (hn:∃m,h₁.Ns s.heap.objs.size m) (oc:OwnCells scope cl0 cl s.heap.objs.size h₁):
 Inv (HM X N' scope cl s.heap.objs.size s H fp) [] (IJ js σ) H {s with heap:=h₁,toks:=t'}:=by
 have fresh:H s.heap.objs.size=none:=I.hok.fresh (Ag _);have h2:∀x c,cl.lookup x=some c→(scope.names.lookup x=some .cell∧s.heap.objs.size<c∧h₁.IsCell c none)∨X.env.cells.lookup x=some c:=λx c e=>by
  by_cases hx:scope.names.lookup x=some .cell
  · exact .inl ⟨hx,(oc.own x c e).1 hx⟩
  · exact .inr (h2' x c ((oc.own x c e).2 hx))
 have h3:∀p∈scope.names,p.2= .free→(cl.lookup p.1).isSome=true:=λp hp e=>oc.has _ (.inr (h3' p hp e));have kind_of:∀x,((relabel scope X.env).names.lookup x=some .cell∨(relabel scope X.env).names.lookup x=some .free)→scope.names.lookup x=some .cell∨scope.names.lookup x=some .free:=λx hx=>by
  rcases hx with hx | hx
  · obtain⟨k0,e,z⟩:=SK hx;rcases z with z | ⟨z,_⟩
    · subst z;exact .inl e
    · subst z;exact .inr e
  · obtain⟨k0,e,z⟩:=SK hx;rcases z with z | ⟨z,z'⟩
    · subst z;exact .inr e
    · cases z'
 have clt:∀x c,X.env.cells.lookup x=some c→c<s.heap.objs.size:=λx c e=>let⟨v,hv⟩:=I.cell x c e;hv.lt;have okc:(HM X N' scope cl s.heap.objs.size s H fp).Ok:=by
  refine⟨I.ok.mod,ok.kind,I.ok.glob,I.ok.blt,Ag _,λx y c e1 e2=>?_,λx hx=>?_,λx c hx e=>?_,I.ok.hd,I.ok.frames,.inl rfl,λb hb=>⟨Ar (hlt b hb),λx c e=>?_⟩,I.bs,AT I.ok.bsz I.sz,λb o e hb=>?_,λb hb hb'=>?_,I.stack,I.stkFree⟩
  · rcases h2 x c e1 with⟨k1,l1,_⟩ | l1
    · rcases h2 y c e2 with⟨k2,l2,_⟩ | l2
      · exact oc.inj x y c k1 k2 e1 e2
      · exact absurd l1 (Nat.lt_asymm (clt y c l2))
    · rcases h2 y c e2 with⟨k2,l2,_⟩ | l2
      · exact absurd l2 (Nat.lt_asymm (clt x c l1))
      · exact I.ok.inj x y c l1 l2
  · have z:(cl.lookup x).isSome=true:=by
     rcases kind_of x hx with e | e
     · exact oc.has x (.inl e)
     · exact h3 _ (O4 e) rfl
    cases q:cl.lookup x with
    | none=>rw[q] at z;cases z
    | some c=>exact⟨c,q⟩
  · exact AU ((oc.own x c e).1 (eq_of_beq hx)).1
  · rcases h2 x c e with⟨_,l,_⟩ | l
    · exact λz=>Nat.lt_asymm (hlt b hb) (z ▸ l)
    · exact(hf b hb).2.2.2.2.1 x c l
  · rcases(hf b hb).2.2.2.1 with z | z
    · exact I.ok.noex b o e z
    · exact absurd (AG (Am e) (AT I.ok.bsz z)) (CD _)
  · rcases Al.mp (I.stkSub b hb') with z | z
    · exact(hf b hb).2.1 z
    · exact(hf b hb).2.2.1 z
 obtain⟨m,hn⟩:=hn;refine⟨okc,rfl,I.bare,Un.kept k,⟨m,hn,λi x v e1 e2 e3=>?_⟩,λx c e=>?_,fresh,λx c e=>?_,(λp hp=>nomatch hp),I.hok.kept k,by show(IJ js σ).length=N'.length;unfold IJ;rw[Ab];exact ok.len⟩
 · have e2:(IJ js σ)[i]?=some (some v):=e2;unfold IJ at e2;rw[Af] at e2;cases q:js[i]? with
   | none=>rw[q] at e2;cases e2
   | some o=>
    rw[q] at e2;cases o with
    | none=>cases e2
    | some j=>
     obtain⟨x',n1,n2,n3⟩:=ok.cap i j q;have e1:N'[i]?=some x:=e1;rw[n1] at e1;cases e1;have e2:(σ[j]?).join=some v:=AB e2;have e2':σ[j]?=some (some v):=by
      cases q2:σ[j]? with
      | none=>rw[q2] at e2;cases e2
      | some o2=>rw[q2] at e2;exact congrArg some e2
     obtain⟨mo,hno,hlo⟩:=I.loc;have kx:=ok.free _ (O4 n3) rfl;have vis:MG X.env.scope x:=by
      rcases kx with z | z
      · exact .inr (.inl z)
      · exact .inr (.inr z)
     obtain⟨u,r,l⟩:=hlo j x v n2 e2' vis;refine⟨u,r,.inr ⟨Ye n3,?_⟩⟩;rcases l with⟨z,_⟩ | ⟨_,c,hc,hcell⟩
     · rcases kx with y | y<;>(rw[z] at y;cases y)
     · have z:=h3 _ (O4 n3) rfl;cases q3:cl.lookup x with
       | none=>rw[q3] at z;cases z
       | some c'=> have:=h2' x c' ((oc.own x c' q3).2 (by rw[n3];decide));rw[hc] at this;cases this;exact⟨c,q3,hcell.keeps k⟩
 · rcases h2 x c e with⟨_,_,l⟩ | l
   · exact⟨_,l⟩
   · obtain⟨v,hv⟩:=I.cell x c l;exact⟨v,hv.keeps k⟩
 · rcases h2 x c e with⟨_,l,_⟩ | l
   · exact I.hok.fresh (AU l)
   · exact I.freeC x c l
section
variable{tg iter elt:Expr}{ifs:List Expr}{wi:TI}{js:Im}{g:TG}{tc:TT}{te:TE}{N':List Str}
theorem Rq{pins:List (Addr×Obj)}{σ:St}{H:Hp}{s:Shared}{E:Value→Shared→Prop}{Q:VK}{J:It}{it:Addr}{fp:List Addr}{tn:Nat→Heap→Prop}{cl:List (Str×Addr)}
 (hc:X.calm=true) (ok:CapOk X N' js scope)
 (h2:∀x c,cl.lookup x=some c→X.env.cells.lookup x=some c) (h3:∀p∈scope.names,p.2= .free→(cl.lookup p.1).isSome=true)
 (hg:∀cl C s₀ H₀ ex,PG (HM X N' scope cl C s₀ H₀ ex) tg g) (ht:∀cl C s₀ H₀ ex,HP (HM X N' scope cl C s₀ H₀ ex) ifs tc) (he:∀cl C s₀ H₀ ex,PE (HM X N' scope cl C s₀ H₀ ex) elt te)
 (I:Inv X pins σ H s) (T:Turn X.prog X.w X.K tg J fp it tn) (st:tn 0 s.heap) (hf:∀b∈fp,Hm X pins H b)
 (hw:∀p,H p=none→JF J p js g tc te σ H Q):
 wpAny (model X.prog X.w) X.A (newList []) (λacc s₃=>wpAny (model X.prog X.w) X.A (newFunctionEnv scope X.env.globals cl [] X.env.qual none .none (some X.env)) (λcenv s₄=>
  codeAny (model X.prog X.w) X.A (.compStart (.ListComp elt [⟨tg,iter,ifs,0⟩] scope pos) 0 (.ref it) acc {cenv with scope:=relabel scope X.env})
   (λr s'=>r= .ok .next∧(∃m,s'.heap.Ns cenv.locals m)∧∃v H',RelV v acc∧Inv X pins σ H' s'∧Hm X pins H' cenv.locals∧Q v H') s₄) E s₃) E s:=by
 have objs:=T.obj _ _ st;refine AR ?_ (by show 0≤Av;decide);obtain⟨W,⟨m0,w0⟩,turn⟩:=hw s.heap.objs.size (I.hok.fresh (Ag _));generalize hp:s.heap.objs.size=p at*;have kp:∀b u,s.heap.get? b=some u→(s.heap.push {cls:= .type "list",dict:=none,data:= .seq ([]:List Value).toArray}).get? b=some u:=λb u e=>Ad _ e;have I3:Inv X pins σ (Hh H p (.lst [])) {s with heap:=s.heap.push {cls:= .type "list",dict:=none,data:= .seq ([]:List Value).toArray}}:=by refine I.laid (t':=s.toks) kp (by rw[hp];exact Ag _) ⟨Bo _,[],0,.nil,?_⟩;have:=Ao s.heap (o:={cls:= .type "list",dict:=none,data:= .seq ([]:List Value).toArray}) rfl;rw[hp] at this;exact this
 have fne:∀b∈fp,b≠p:=λb hb=>by obtain⟨o,e,_⟩:=objs b hb;have:=Am e;rw[←hp];exact Ar this
 have hf3:∀b∈fp,Hm X pins (Hh H p (.lst [])) b:=λb hb=>⟨by rw[HC (fne b hb)];exact(hf b hb).1,(hf b hb).2⟩;have st3:tn 0 (s.heap.push {cls:= .type "list",dict:=none,data:= .seq ([]:List Value).toArray}):=T.keep _ _ _ st λb _ o e=>kp b o e;have lt3:∀b∈fp,b<(s.heap.push {cls:= .type "list",dict:=none,data:= .seq ([]:List Value).toArray}).objs.size:=λb hb=>by obtain⟨o,e,_⟩:=objs b hb;exact Am (kp b o e)
 generalize hs3:({s with heap:=s.heap.push {cls:= .type "list",dict:=none,data:= .seq ([]:List Value).toArray}}:Shared)=s3 at*
 have eh:s.heap.push {cls:= .type "list",dict:=none,data:= .seq ([]:List Value).toArray}=s3.heap:=by rw[←hs3]
 rw[eh] at st3 lt3;refine Nz ok.cells λcl h₁ hns₁ k4 oc=>?_;have I4:=Nt (cl:=cl) (h₁:=h₁) (t':=s3.toks+([]:List (Str×Value)).length) ok I3 h2 h3 hf3 lt3 k4 hns₁ oc;have st4:tn 0 h₁:=T.keep _ _ _ st3 λb _ o e=>k4 b o e;generalize hX:HM X N' scope cl s3.heap.objs.size s3 (Hh H p (.lst [])) fp=X' at I4;have hg':PG X' tg g:=by rw[←hX];exact hg _ _ _ _ _
 have ht':HP X' ifs tc:=by rw[←hX];exact ht _ _ _ _ _
 have he':PE X' elt te:=by rw[←hX];exact he _ _ _ _ _
 have eP:X'.prog=X.prog:=by rw[←hX];rfl
 have ew:X'.w=X.w:=by rw[←hX];rfl
 have eK:X'.K=X.K:=by rw[←hX];rfl
 have ec:X'.calm=true:=by rw[←hX];exact hc
 have eA:X'.A=X.A:=by rw[←hX];rfl
 have ex:X'.xe=λ_ _=>False:=by rw[←hX];rfl
 have eE:X'.env=compEnvC scope cl s3.heap.objs.size X.env:=by rw[←hX];rfl
 have eEx:X'.ex=fp:=by rw[←hX];rfl
 have eN:X'.pn=[]:=by rw[←hX];rfl
 have stat:∀{H':Hp},(∀b∈fp,H' b=none)→∀b∈fp,Hm X' [] H' b:=λ{H'}hn b hb=>by have okc:=I4.ok;refine⟨hn b hb,(okc.exf b (by rw[eEx];exact hb)).1,okc.exfs b (by rw[eEx];exact hb),.inl (by rw[eEx];exact hb),(okc.exf b (by rw[eEx];exact hb)).2,λq hq=>?_⟩;rw[eN] at hq;cases hq
 have loop:∀s₄:Shared,s₄={s3 with heap:=h₁,toks:=s3.toks+([]:List (Str×Value)).length}→
  codeAny (model X.prog X.w) X.A (.compLoop (.ListComp elt [⟨tg,iter,ifs,0⟩] scope pos) 0 (.ref it) (.ref p) (compEnvC scope cl s3.heap.objs.size X.env))
   (λr s'=>r= .ok .next∧(∃m,s'.heap.Ns s3.heap.objs.size m)∧∃v H',RelV v (.ref p)∧Inv X pins σ H' s'∧Hm X pins H' s3.heap.objs.size∧Q v H') s₄:=by
  rintro s₄ rfl;refine X0 (λn s'=>∃i σ' ys H',Inv X' [] σ' H' s'∧tn i s'.heap∧(∀b∈fp,H' b=none)∧W i n σ' ys H') ?_ m0 ⟨0,_,[],_,I4,st4,λb hb=>(hf3 b hb).1,w0⟩;rintro n s5 ⟨i,σ5,ys,H5,I5,st5,fr5,w5⟩;obtain⟨hp5,tu⟩:=turn i n σ5 ys H5 w5;rcases tu with⟨stop,qn⟩ | ⟨go,hz,step⟩
  · have D:=T.done X' eP ew eK ec i [] s5 σ5 H5 (λ_ _=>False) I5 (stat fr5) st5 stop;rw[eA] at D;refine Hj D λr s6 ⟨hr,I6⟩=>?_;subst hr;refine⟨rfl,?_,.ref p,H5,rfl,?_,?_,qn⟩
    · obtain⟨m,hm,_⟩:=I6.loc;rw[eE] at hm;exact⟨m,hm⟩
    · have b6:=I6.base;have ho:=I6.os;have hk:=I6.hok;have hb:=I6.bare;subst hX;exact I3.call' (ch:=fp) ho b6 hk hb λb hb'=>⟨(hf b hb').2.2.2.1,(hf b hb').2.1,(hf b hb').2.2.2.2.1,(hf b hb').2.2.2.2.2⟩
    · have fr:=I6.free;rw[eE] at fr;exact I3.fpOk (Ag _) fr
  · have D:=T.item X' eP ew eK ec i [] s5 σ5 H5 (λ_ _=>False) I5 (stat fr5) st5 go;rw[eA] at D;refine Hj D λr s6 ⟨u,hr,h6⟩=>?_;subst hr;refine Hj h6 λ_ s7 ⟨x,H7,I7,r7,y7,st7,fr7⟩=>?_;have I7':=I7.pinned (stat fr7) (T.obj _ _ st7);have G:=hg' _ s7 σ5 H7 x u _ I7' r7 (step x H7 y7);rw[eP,ew,eA,ex,eE] at G;refine Hj G λ_ s8 ⟨σ8,H8,I8,q8⟩=>?_;have Tt:=ht' _ s8 σ8 H8 _ I8 q8;rw[eP,ew,eA,ex,eE] at Tt;refine Hj Tt λb s9 ⟨H9,I9,q9⟩=>?_;have again:∀{s':Shared}{ys':List V}{H':Hp},Inv X' ([]++IN fp s7.heap) σ8 H' s'→(∃m',m'<n∧W (i+1) m' σ8 ys' H')→
     ∃m,m<n∧∃i σ' ys H',Inv X' [] σ' H' s'∧tn i s'.heap∧(∀b∈fp,H' b=none)∧W i m σ' ys H':=λ{s' ys' H'}I' ⟨m',hm,w'⟩=>by
     refine⟨m',hm,i+1,σ8,ys',H',I'.unpinned,T.keep _ _ _ st7 λb hb o e=>(I'.pin (b,o) (Aj _ (Aj _ (Jt hb e)))).1,λb hb=>?_,w'⟩;obtain⟨o,e,d⟩:=T.obj _ _ st7 b hb;exact(I'.pin (b,o) (Aj _ (Aj _ (Jt hb e)))).2.1
    cases b with
    | false=>exact again I9 q9
    | true=> have Ee:=he' _ s9 σ8 H9 _ I9 q9;rw[eP,ew,eA,ex,eE] at Ee;show wpAny _ _ _ _ _ _;refine Hj Ee λxv s10 ⟨y,H10,I10,r10,hp10,q10⟩=>?_;have Ap:=LJ (X:=X') _ s10 σ8 H10 (.ref p) [y] (.ref p) [xv] (λ_ H'=>H'=Hh H10 p (.lst (ys++[y]))) I10 rfl (.cons r10 .nil) ⟨p,ys,y,rfl,rfl,hp10,hz,rfl⟩;rw[eP,ew,eA,ex] at Ap;refine Hj Ap λ_ s11 ⟨_,H11,I11,_,e11⟩=>?_;subst e11;exact again I11 q10
 exact F0 (loop _ rfl) (T.self _ 0 _ _ _ st4 (loop _ rfl))
theorem Jw(hc:X.calm=true)(ok:CapOk X N' js scope)(hi:PI X tg iter wi)
 (hg:∀cl C s₀ H₀ ex,PG (HM X N' scope cl C s₀ H₀ ex) tg g) (ht:∀cl C s₀ H₀ ex,HP (HM X N' scope cl C s₀ H₀ ex) ifs tc) (he:∀cl C s₀ H₀ ex,PE (HM X N' scope cl C s₀ H₀ ex) elt te)
 (hs:∀x,Bb iter X.env x=pure x:=by intro _;rfl):PE X (.ListComp elt [⟨tg,iter,ifs,0⟩] scope pos) (SW wi js g tc te):=by
 intro pins s σ H Q I h;obtain⟨cl,c1,c2,c3⟩:=Ma (scope:=scope) I.ok.has ok.free;rw[eval_ListComp];refine CA (use:=none) rfl hs c1 ok.kind ok.names (Hj (hi pins s σ H _ I h) λv s1 h1=>Hj h1 λitv s2 h2=>?_);obtain⟨it,fp,tn,J,H2,e,I2,T,st2,f2,hw⟩:=h2;subst e;refine AA (Rq (iter:=iter) (pos:=pos) hc ok c2 c3 hg ht he I2 T st2 f2 hw) (λacc s3 h3=>AA h3 (λcenv s4 h4=>?_) λ_ _ z=>z) λ_ _ z=>z;refine Cm h4 λr s5 h5=>?_;obtain⟨rfl,⟨m,hm⟩,v,H5,rv,I5,f5,q5⟩:=h5;refine⟨m,hm,λh' sb=>?_⟩;obtain⟨f0,f1,_,f3,f4,f6⟩:=f5;exact⟨v,H5,I5.turned (t':=s5.toks) (λb o hb e=>(sb.2 b hb).trans e) f0 f1 f3 f4 f6,rv,q5⟩
theorem Nc{px:Pos}{spos:Pos}(hN:X.N.Nodup)(hi':X.N[i]?=some x)(hx:Ly X.env.scope x)(hc:X.calm=true)(ok:CapOk X N' js scope)(hi:PI X tg iter wi)
 (hg:∀cl C s₀ H₀ ex,PG (HM X N' scope cl C s₀ H₀ ex) tg g) (ht:∀cl C s₀ H₀ ex,HP (HM X N' scope cl C s₀ H₀ ex) ifs tc) (he:∀cl C s₀ H₀ ex,PE (HM X N' scope cl C s₀ H₀ ex) elt te)
 (hsw:swapsWith (.ListComp elt [⟨tg,iter,ifs,0⟩] scope pos) (some (.Name x px)) spos.line X.env=pure true:=by rfl)
 (hs:∀x,Bb iter X.env x=pure x:=by intro _;rfl) (hf:X.fn x=true∨X.env.scope.names.lookup x=some .local:=by first | exact .inl rfl | exact .inr rfl | assumption):
 PS X (.Assign [.Name x px] (.ListComp elt [⟨tg,iter,ifs,0⟩] scope pos) spos) (K0 (SW wi js g tc te) (J6 i)):=by
 intro pins s σ H D I h;obtain⟨cl,c1,c2,c3⟩:=Ma (scope:=scope) I.ok.has ok.free;rw[exec_Assign_Name_used _ _ _ _ hsw];refine Aa (Bm (Aa ?_));show wpAny _ X.A (do let _ ←comprehension (.ListComp elt [⟨tg,iter,ifs,0⟩] scope pos) scope X.env _ (newList []) false (eval iter X.env) (some (assign (.Name x px) X.env))) _ _ s
 refine Aa (AA (CA (use:=some (assign (.Name x px) X.env)) (Q:=λ_ s'=>SP X pins D .next s') rfl hs c1 ok.kind ok.names
  (Hj (hi pins s σ H _ I h) λv s1 h1=>Hj h1 λitv s2 h2=>?_)) (λ_ s' hq=>Ac (Ac hq)) λ_ _ e=>e)
 obtain⟨it,fp,tn,J,H2,e,I2,T,st2,f2,hw⟩:=h2;subst e;refine AA (Rq (Q:=λx H1=>J6 i x σ H1 D.nx) (iter:=iter) (pos:=pos) hc ok c2 c3 hg ht he I2 T st2 f2 hw) (λacc s3 h3=>AA h3 (λcenv s4 h4=>?_) λ_ _ z=>z) λ_ _ z=>z;refine Cm h4 λr s5 h5=>?_;obtain⟨rfl,⟨m,hm⟩,v,H5,rv,I5,f5,q5⟩:=h5;obtain⟨f0,f1,f2',f3,f4,f6⟩:=f5;show wpAny _ X.A (assign (.Name x px) X.env acc) _ _ _;refine EM (OG I5 hN hi' hx rv (λs6 I6 ch=>?_) hf);obtain⟨a,sb,ha⟩:=ch;have na:cenv.locals≠a:=by
  rcases ha with z | z
  · rw[z];exact f1
  · exact λy=>f4 x a z y.symm
 refine⟨m,hm.sameBut sb na,λh' sb'=>⟨_,H5,I6.turned (t':=s6.toks) (λb o hb e=>(sb'.2 b hb).trans e) f0 f1 f3 f4 f6,q5⟩⟩
end
end L2
set_option exponentiation.threshold 2000
namespace L2
def P_(i j:Int):Prop:=0≤j∧j≤1000∧i.natAbs<2^1000
def Ua(i j:Int):Prop:=0<j∧j<2^1000
theorem Le:Ie X (binaryOp .Pow) (rI P_ λi j=> .int (i^j.toNat)):=M3 λi j _ _ _ _ _ hc q=>by
 obtain⟨h0,h1,h2⟩:=hc;refine pow_int h0 ?_ q;have hb:Er i≤1000:=intBits_le h2;have e1:((Er i:Nat):Int)*j≤1000*1000:=by have a1:((Er i:Nat):Int)*j≤1000*j:=Int.mul_le_mul_of_nonneg_right (by omega) h0;have a2:1000*j≤1000*1000:=CG h1 (by decide);exact E_ a1 a2
 exact E_ e1 (by decide)
theorem Rw:Ie X (binaryOp .FloorDiv) (rI Ua λi j=> .int (i / j)):=M3 λi j _ _ _ _ _ hc q=>by
 obtain⟨h0,h1⟩:=hc;refine floordiv_int (by omega) ?_ (.inl (PyProof.noPylong_of_log2 ?_))
 · rw[Int.fdiv_eq_ediv_of_nonneg _ (by omega)];exact q
 · have h2:j.natAbs<2^1000:=by
    have e:((j.natAbs:Nat):Int)=j:=by omega
    have h3:((j.natAbs:Nat):Int)<((2^1000:Nat):Int):=by rw[e,Int.natCast_pow];exact h1
    exact Int.ofNat_lt.mp h3
   have h4:j.natAbs≠0:=by omega
   have h5:=(Nat.log2_lt h4).mpr h2;omega
inductive PD where
 | non | bl (b:Bool) | int (i:Int) | str (x:Str) | lst (ds:List PD) | tup (ds:List PD)
mutual
def Hi(K:Ai)(H:Hp):PD→V→Prop
 | .non,v=>v= .non
 | .bl b,v=>v= .bl b
 | .int i,v=>v= .int i
 | .str x,v=>v= .str x
 | .lst ds,v=>∃a xs,v= .ref a∧SqL K H a xs∧Reps K H ds xs
 | .tup ds,v=>∃a xs,v= .ref a∧SqT K H a xs∧Reps K H ds xs
def Reps(K:Ai)(H:Hp):List PD→List V→Prop
 | [],xs=>xs=[]
 | d::ds,xs=>∃x r,xs=x::r∧Hi K H d x∧Reps K H ds r
end
mutual
def HE:PD→PD→Bool
 | .non,.non=>true
 | .bl a,.bl b=>a==b
 | .bl a,.int b=>(if a then 1 else 0)==b
 | .int a,.bl b=>a==(if b then 1 else 0)
 | .int a,.int b=>a==b
 | .str a,.str b=>a==b
 | .lst xs,.lst ys=>J7 xs ys
 | .tup xs,.tup ys=>J7 xs ys
 | _,_=>false
def J7:List PD→List PD→Bool
 | [],[]=>true
 | x::xs,y::ys=>HE x y && J7 xs ys
 | _,_=>false
end
mutual
def ID:PD→Nat
 | .lst ds=>I_ ds+1
 | .tup ds=>I_ ds+1
 | _=>0
def I_:List PD→Nat
 | []=>0
 | d::ds=>max (ID d) (I_ ds)
end
mutual
theorem Lg:∀d:PD,HE d d=true
 | .non=>rfl
 | .bl b=>by simp[HE]
 | .int i=>by simp[HE]
 | .str x=>by simp[HE]
 | .lst ds=>by rw[HE];exact Nq ds
 | .tup ds=>by rw[HE];exact Nq ds
theorem Nq:∀ds:List PD,J7 ds ds=true
 | []=>by rw[J7]
 | d::ds=>by rw[J7,Lg d,Nq ds];rfl
end
theorem Reps.length:∀{ds:List PD}{xs:List V},Reps K H ds xs→xs.length=ds.length
 | [],xs,h=>by rw[Reps] at h;rw[h];rfl
 | d::ds,xs,h=>by rw[Reps] at h;obtain⟨x,r,rfl,_,h⟩:=h;rw[AN,AN,Reps.length h]
theorem KE:∀{xs ys:List PD},xs.length≠ys.length→J7 xs ys=false
 | [],[],h=>absurd rfl h
 | [],_::_,_=>by rw[J7];all_goals simp
 | _::_,[],_=>by rw[J7];all_goals simp
 | x::xs,y::ys,h=>by rw[J7,KE (xs:=xs) (ys:=ys) (by simpa using h)];simp
def KL(xs ys:List PD)(j:Nat):Bool:=match xs[j]?,ys[j]? with
 | some a,some b=>HE a b
 | _,_=>false
theorem Lk:∀(xs ys:List PD),xs.length=ys.length→(Bf xs.length).all (KL xs ys)=J7 xs ys
 | [],[],_=>by rw[J7];rfl
 | x::xs,y::ys,h=>by rw[J7,AN,F2,Da,Ek];rw[←Lk xs ys (by simpa using h)];rfl
theorem SqT.notL{K:Ai}{ys:List V}(I:Inv X pins σ H s)(h:SqT X.K H a xs)(h':SqL X.K H a ys):False:=by obtain⟨its,_,p,_⟩:=I.tuple h;obtain⟨its',_,p',_⟩:=I.list h';exact SeqAt.ne_of_list_tuple p'.isList (show s.heap.IsTuple a its.toArray from p) rfl
mutual
theorem NX(I:Inv X pins σ H s):∀(d e:PD)(v:V),Hi X.K H d v→Hi X.K H e v→d=e
 | .non,e,v,h,h'=>by rw[Hi] at h;subst h;cases e<;>rw[Hi] at h'<;>first | rfl | (obtain⟨_,_,z,_⟩:=h';cases z;done) | (cases h';done)
 | .bl b,e,v,h,h'=>by rw[Hi] at h;subst h;cases e<;>rw[Hi] at h'<;>first | (obtain⟨_,_,z,_⟩:=h';cases z;done) | (cases h';done) | (cases h';rfl)
 | .int i,e,v,h,h'=>by rw[Hi] at h;subst h;cases e<;>rw[Hi] at h'<;>first | (obtain⟨_,_,z,_⟩:=h';cases z;done) | (cases h';done) | (cases h';rfl)
 | .str x,e,v,h,h'=>by rw[Hi] at h;subst h;cases e<;>rw[Hi] at h'<;>first | (obtain⟨_,_,z,_⟩:=h';cases z;done) | (cases h';done) | (cases h';rfl)
 | .lst ds,e,v,h,h'=>by
  rw[Hi] at h;obtain⟨a,xs,rfl,q,r⟩:=h;cases e with
  | lst es=> rw[Hi] at h';obtain⟨a',ys,z,q',r'⟩:=h';cases z;have:=I.list_inj q q';subst this;rw[Oz I ds es xs r r']
  | tup es=> rw[Hi] at h';obtain⟨a',ys,z,q',r'⟩:=h';cases z;exact(SqT.notL (K:=X.K) I q' q).elim
  | _=>rw[Hi] at h';cases h'
 | .tup ds,e,v,h,h'=>by
  rw[Hi] at h;obtain⟨a,xs,rfl,q,r⟩:=h;cases e with
  | tup es=> rw[Hi] at h';obtain⟨a',ys,z,q',r'⟩:=h';cases z;have:=I.tuple_inj q q';subst this;rw[Oz I ds es xs r r']
  | lst es=> rw[Hi] at h';obtain⟨a',ys,z,q',r'⟩:=h';cases z;exact(SqT.notL (K:=X.K) I q q').elim
  | _=>rw[Hi] at h';cases h'
theorem Oz(I:Inv X pins σ H s):∀(ds es:List PD)(vs:List V),Reps X.K H ds vs→Reps X.K H es vs→ds=es
 | [],es,vs,h,h'=>by
  rw[Reps] at h;subst h;cases es with
  | nil=>rfl
  | cons e es=>rw[Reps] at h';obtain⟨_,_,z,_⟩:=h';cases z
 | d::ds,es,vs,h,h'=>by
  rw[Reps] at h;obtain⟨x,r,rfl,h1,h2⟩:=h;cases es with
  | nil=>rw[Reps] at h';cases h'
  | cons e es=> rw[Reps] at h';obtain⟨x',r',z,h1',h2'⟩:=h';cases z;rw[NX I d e x h1 h1',Oz I ds es r h2 h2']
end
mutual
theorem UW(I:Inv X pins σ H s):∀(A:Cy)(d e:PD)(v w:V)(u y:Value),Hi X.K H d v→Hi X.K H e w→RelV v u→RelV w y→A.units+ID d<cLine→SeqAt.EqAt A s u y (HE d e)
 | A,.non,e,v,w,u,y,h,h',r,r',z=>by
  rw[Hi] at h;subst h;cases r;cases e with
  | non=>rw[Hi] at h';subst h';cases r';rw[HE];exact Eg _
  | bl b=>rw[Hi] at h';subst h';cases r';exact FM b
  | int b=>rw[Hi] at h';subst h';obtain⟨t,rfl⟩:=r';exact FR b t
  | str b=>rw[Hi] at h';subst h';obtain⟨t,rfl⟩:=r';exact FT b t
  | lst es=>rw[Hi] at h';obtain⟨a,xs,rfl,q,_⟩:=h';cases r';obtain⟨its,_,p,_⟩:=I.list q;exact SeqAt.EqAt.none_list p.isList (by omega)
  | tup es=>rw[Hi] at h';obtain⟨a,xs,rfl,q,_⟩:=h';cases r';obtain⟨its,_,p,_⟩:=I.tuple q;exact SeqAt.EqAt.none_tuple p (by omega)
 | A,.bl c,e,v,w,u,y,h,h',r,r',z=>by
  rw[Hi] at h;subst h;cases r;cases e with
  | non=>rw[Hi] at h';subst h';cases r';exact FN c
  | bl b=>rw[Hi] at h';subst h';cases r';exact FO c b
  | int b=>rw[Hi] at h';subst h';obtain⟨t,rfl⟩:=r';exact FU c b t
  | str b=>rw[Hi] at h';subst h';obtain⟨t,rfl⟩:=r';exact FV c b t
  | lst es=>rw[Hi] at h';obtain⟨a,xs,rfl,q,_⟩:=h';cases r';obtain⟨its,_,p,_⟩:=I.list q;exact SeqAt.EqAt.bool_list c p.isList (by omega)
  | tup es=>rw[Hi] at h';obtain⟨a,xs,rfl,q,_⟩:=h';cases r';obtain⟨its,_,p,_⟩:=I.tuple q;exact SeqAt.EqAt.bool_tuple c p (by omega)
 | A,.int c,e,v,w,u,y,h,h',r,r',z=>by
  rw[Hi] at h;subst h;obtain⟨tc,rfl⟩:=r;cases e with
  | non=>rw[Hi] at h';subst h';cases r';exact FW c tc
  | bl b=>rw[Hi] at h';subst h';cases r';exact FX c tc b
  | int b=>rw[Hi] at h';subst h';obtain⟨t,rfl⟩:=r';exact SeqAt.EqAt.int_int c tc b t
  | str b=>rw[Hi] at h';subst h';obtain⟨t,rfl⟩:=r';exact E1 c tc b t
  | lst es=>rw[Hi] at h';obtain⟨a,xs,rfl,q,_⟩:=h';cases r';obtain⟨its,_,p,_⟩:=I.list q;exact SeqAt.EqAt.int_list c tc p.isList (by omega)
  | tup es=>rw[Hi] at h';obtain⟨a,xs,rfl,q,_⟩:=h';cases r';obtain⟨its,_,p,_⟩:=I.tuple q;exact SeqAt.EqAt.int_tuple c tc p (by omega)
 | A,.str c,e,v,w,u,y,h,h',r,r',z=>by
  rw[Hi] at h;subst h;obtain⟨tc,rfl⟩:=r;cases e with
  | non=>rw[Hi] at h';subst h';cases r';exact FY c tc
  | bl b=>rw[Hi] at h';subst h';cases r';exact FZ c tc b
  | int b=>rw[Hi] at h';subst h';obtain⟨t,rfl⟩:=r';exact E2 c tc b t
  | str b=>rw[Hi] at h';subst h';obtain⟨t,rfl⟩:=r';exact SeqAt.EqAt.str_str c tc b t
  | lst es=>rw[Hi] at h';obtain⟨a,xs,rfl,q,_⟩:=h';cases r';obtain⟨its,_,p,_⟩:=I.list q;exact SeqAt.EqAt.str_list c tc p.isList (by omega)
  | tup es=>rw[Hi] at h';obtain⟨a,xs,rfl,q,_⟩:=h';cases r';obtain⟨its,_,p,_⟩:=I.tuple q;exact SeqAt.EqAt.str_tuple c tc p (by omega)
 | A,.lst ds,e,v,w,u,y,h,h',r,r',z=>by
  have h0:=h;rw[Hi] at h;obtain⟨a,xs,rfl,q,qs⟩:=h;cases r;obtain⟨its,rv,p,_⟩:=I.list q;cases e with
  | non=>rw[Hi] at h';subst h';cases r';exact SeqAt.EqAt.list_none p.isList (by omega)
  | bl b=>rw[Hi] at h';subst h';cases r';exact SeqAt.EqAt.list_bool b p.isList (by omega)
  | int b=>rw[Hi] at h';subst h';obtain⟨t,rfl⟩:=r';exact SeqAt.EqAt.list_int b t p.isList (by omega)
  | str b=>rw[Hi] at h';subst h';obtain⟨t,rfl⟩:=r';exact SeqAt.EqAt.list_str b t p.isList (by omega)
  | tup es=>rw[Hi] at h';obtain⟨b,ys,rfl,q',_⟩:=h';cases r';obtain⟨its',_,p',_⟩:=I.tuple q';exact SeqAt.EqAt.list_tuple p.isList p' (by omega)
  | lst es=>
   have h0':=h';rw[Hi] at h';obtain⟨b,ys,rfl,q',qs'⟩:=h';cases r';obtain⟨its',rv',p',_⟩:=I.list q';by_cases hab:a=b
   · subst hab;rw[NX I _ _ _ h0 h0',Lg];exact Eg _
   · refine SeqAt.EqAt.of_refs hab ?_;rw[HE];rw[ID] at z;have l1:=qs.length;have l2:=qs'.length;have l3:=rv.length;have l4:=rv'.length;by_cases hl:ds.length=es.length
     · rw[←Lk ds es hl];have:=SeqAt.RcAt.lists (e:=KL ds es) p.isList p'.isList (by simp;omega) (by omega) (λj h1 h2=>?_) (A:=A)
       · simp only[Aw] at this;rw[show ds.length=its.length by omega];exact this
       · have:=Li I A.in1 ds es xs ys its its' qs qs' rv rv' (by rw[Di];omega) j (by simpa using h1) (by simpa using h2);simpa using this
     · rw[KE hl];exact Fa p.isList p'.isList (by simp;omega) (by omega)
 | A,.tup ds,e,v,w,u,y,h,h',r,r',z=>by
  have h0:=h;rw[Hi] at h;obtain⟨a,xs,rfl,q,qs⟩:=h;cases r;obtain⟨its,rv,p,_⟩:=I.tuple q;cases e with
  | non=>rw[Hi] at h';subst h';cases r';exact SeqAt.EqAt.tuple_none p (by omega)
  | bl b=>rw[Hi] at h';subst h';cases r';exact SeqAt.EqAt.tuple_bool b p (by omega)
  | int b=>rw[Hi] at h';subst h';obtain⟨t,rfl⟩:=r';exact SeqAt.EqAt.tuple_int b t p (by omega)
  | str b=>rw[Hi] at h';subst h';obtain⟨t,rfl⟩:=r';exact SeqAt.EqAt.tuple_str b t p (by omega)
  | lst es=>rw[Hi] at h';obtain⟨b,ys,rfl,q',_⟩:=h';cases r';obtain⟨its',_,p',_⟩:=I.list q';exact SeqAt.EqAt.tuple_list p p'.isList (by omega)
  | tup es=>
   have h0':=h';rw[Hi] at h';obtain⟨b,ys,rfl,q',qs'⟩:=h';cases r';obtain⟨its',rv',p',_⟩:=I.tuple q';by_cases hab:a=b
   · subst hab;rw[NX I _ _ _ h0 h0',Lg];exact Eg _
   · refine SeqAt.EqAt.of_refs hab ?_;rw[HE];rw[ID] at z;have l1:=qs.length;have l2:=qs'.length;have l3:=rv.length;have l4:=rv'.length;have:=SeqAt.RcAt.tuples (e:=KL ds es) p p' (by omega) (λj h1 h2=>?_) (A:=A)
     · simp only[Aw] at this;by_cases hl:ds.length=es.length
       · rw[←Lk ds es hl];rw[show min its.length its'.length=ds.length by omega,show(its.length==its'.length)=true by simp;omega,DV] at this;exact this
       · rw[KE hl];rw[show(its.length==its'.length)=false by simp;omega,Eu] at this;exact this
     · have:=Li I A.in1 ds es xs ys its its' qs qs' rv rv' (by rw[Di];omega) j (by simpa using h1) (by simpa using h2);simpa using this
theorem Li(I:Inv X pins σ H s):∀(A:Cy)(ds es:List PD)(vs ws:List V)(us ys:List Value),Reps X.K H ds vs→Reps X.K H es ws→Vals vs us→Vals ws ys→A.units+I_ ds<cLine→
 ∀(j:Nat)(h1:j<us.length)(h2:j<ys.length),SeqAt.EqAt A s us[j] ys[j] (KL ds es j)
 | A,[],es,vs,ws,us,ys,h,h',r,r',z=>by rw[Reps] at h;subst h;cases r;intro j h1;exact absurd h1 (Nat.not_lt_zero _)
 | A,d::ds,es,vs,ws,us,ys,h,h',r,r',z=>by
  rw[Reps] at h;obtain⟨x,vr,rfl,g1,g2⟩:=h;cases es with
  | nil=> rw[Reps] at h';subst h';cases r';intro j h1 h2;exact absurd h2 (Nat.not_lt_zero _)
  | cons e es=>
   rw[Reps] at h';obtain⟨x',vr',rfl,g1',g2'⟩:=h';cases r with
   | cons ra rb=>
    cases r' with
    | cons ra' rb'=>
     rw[I_] at z;intro j h1 h2;cases j with
     | zero=>exact UW I A d e x x' _ _ g1 g1' ra ra' (by omega)
     | succ j=>exact Li I A ds es vr vr' _ _ g2 g2' rb rb' (by omega) j (by simpa using h1) (by simpa using h2)
end
section
variable{R:Result→Shared→Prop}{J:Addr}{fo wo:List Addr}{len:Nat}{At:Nat→Value→Prop}{Sx:Nat→Heap→Prop}
theorem WB(kw:List (Str×Value))(Z:Walks prog w A.in1 J fo wo len At Sx)(bt:Nat→Nat→Bool)(cm:CmpOf prog w A.in1 .Gt At bt)(B:Addr)(nB:B ∉ fo):
 ∀(k j:Nat)(s:Shared)(best:Value)(c:Nat),len - (j+1)=k→j+1≤len→Sx (j+1) s.heap→At (argBest bt j) best→
 s.heap.get? B=some {cls:= .type "list",dict:=none,data:= .seq #[best,best] c,slots:=#[]}→
 (∀v g t',At (argBest bt (len - 1)) v→(∀b o,b ∉ wo→b≠B→s.heap.get? b=some o→g.get? b=some o)→R (.ok (.ret v)) {s with heap:=g,toks:=t'})→
 codeAny (model prog w) A (.builtin "max.loop" ⟨[.ref J,.none,.ref B],kw⟩) R s:=by
 have nW:B ∉ wo:=λz=>nB (Z.sub _ z);have nm:(toString "max"++toString ".loop":String)="max.loop":=by decide
 intro k
 induction k with
 | zero=>
  intro j s best c e0 e1 sx ab eB fin;have last:j+1=len:=by omega
  refine Ci Fb ?_;rw[Bv CJ _];show wpAny _ _ (seqItems? (.ref B)>>=_) _ _ _;refine Aa (A_ eB rfl ?_);show wpAny _ _ (tryCatch (pyNext (.ref J)) _>>=_) _ _ _;refine Aa (Ct (Z.done s _ _ (last ▸ sx) λg t' kp=>?_));have eB':=kp B _ nW eB;show wpAny _ _ (updateSeq B (λ_=>#[])>>=_) _ _ _;refine Aa ?_;refine BR eB' rfl (Aa (Cs (Ac ?_)));exact fin best _ t' (by rw[←last];exact ab) λb o h1 h2 e=>(AQ _ _ (By h2)).trans (kp b o h1 e)
 | succ k ih=>
  intro j s best c e0 e1 sx ab eB fin;have more:j+1<len:=by omega
  refine Ci Fb ?_;rw[Bv CJ _];show wpAny _ _ (seqItems? (.ref B)>>=_) _ _ _;refine Aa (A_ eB rfl ?_);show wpAny _ _ (tryCatch (pyNext (.ref J)) _>>=_) _ _ _;refine Aa (Ct (Z.item (j+1) s _ _ more sx λv g t' av sx' kp=>?_));have eB':=kp B _ nW eB;show wpAny _ _ (tryCatch (holding [v,v] (richCompare .Gt v best>>=_)) _>>=_) _ _ _;refine Aa (Ct (Bh (Aa (cm (j+1) (argBest bt j) v best _ _ _ av ab ?_))));refine Aa (Bh (Bs ?_));refine Aa (Cs (Ac ?_));cases hb:bt (j+1) (argBest bt j) with
  | true=>
   simp only[if_true];refine Aa ?_;refine BR eB' rfl (Aa (Cs ?_));rw[nm];refine Ac ⟨Ce CJ _,ih (j+1) _ v _ (by omega) more (Z.frame _ _ _ sx' λb h1 o e=>?_) (by simp only[argBest,hb,if_true];exact av) (Ba _ eB' rfl)
    λv' g' t'' av' kp'=>?_⟩
   · exact(AQ _ _ (λz:B=b=>nB (by rw[z];exact h1))).trans e
   · exact fin v' g' t'' av' λb o h1 h2 e=>kp' b o h1 h2 ((AQ _ _ (By h2)).trans (kp b o h1 e))
  | false=> simp only[BH,if_false];refine Aa (Cs ?_);rw[nm];refine Ac ⟨Ce CJ _,ih (j+1) _ best c (by omega) more sx' (by simp only[argBest,hb,BH,if_false];exact ab) eB' λv' g' t'' av' kp'=>?_⟩;exact fin v' g' t'' av' λb o h1 h2 e=>kp' b o h1 h2 (kp b o h1 e)
theorem Xi(d:Value)(Z:Walks prog w A.in1 J fo wo len At Sx)(bt:Nat→Nat→Bool)(cm:CmpOf prog w A.in1 .Gt At bt)(B:Addr)(nB:B ∉ fo){c:Nat}(sx:Sx 0 s.heap)
 (eB:s.heap.get? B=some {cls:= .type "list",dict:=none,data:= .seq #[] c,slots:=#[]})
 (fin:∀v g t',(len=0→v=d)→(0<len→At (argBest bt (len - 1)) v)→(∀b o,b ∉ wo→b≠B→s.heap.get? b=some o→g.get? b=some o)→R (.ok (.ret v)) {s with heap:=g,toks:=t'}):
 codeAny (model prog w) A (.builtin "max.loop" ⟨[.ref J,.none,.ref B],[("default",d)]⟩) R s:=by
 have nW:B ∉ wo:=λz=>nB (Z.sub _ z);have nm:(toString "max"++toString ".loop":String)="max.loop":=by decide
 refine Ci Fb ?_;rw[Bv CJ _];show wpAny _ _ (seqItems? (.ref B)>>=_) _ _ _;refine Aa (A_ eB rfl ?_);show wpAny _ _ (tryCatch (pyNext (.ref J)) _>>=_) _ _ _;by_cases hl:len=0
 · refine Aa (Ct (Z.done s _ _ (hl ▸ sx) λg t' kp=>?_));refine Aa (BN (Ac ?_));exact fin d g t' (λ_=>rfl) (λz=>by omega) λb o h1 _ e=>kp b o h1 e
 · refine Aa (Ct (Z.item 0 s _ _ (by omega) sx λv g t' av sx' kp=>?_));have eB':=kp B _ nW eB;show wpAny _ _ (updateSeq B (λ_=>#[v,v])>>=_) _ _ _;refine Aa ?_;refine BR eB' rfl ?_;rw[nm];refine Ac ⟨Ce CJ _,WB [("default",d)] Z bt cm B nB _ 0 _ v _ rfl (by omega) (Z.frame _ _ _ sx' λb h1 o e=>?_) av (Ba _ eB' rfl) λv' g' t'' av' kp'=>?_⟩
   · exact(AQ _ _ (λz:B=b=>nB (by rw[z];exact h1))).trans e
   · exact fin v' g' t'' (λz=>by omega) (λ_=>av') λb o h1 h2 e=>kp' b o h1 h2 ((AQ _ _ (By h2)).trans (kp b o h1 e))
theorem Xh(a d:Value):argsOk "max" ⟨[a],[("default",d)]⟩:=by unfold argsOk;kernel_rfl
theorem X6{E:Value→Shared→Prop}{its:Array Value}{d:Value}{Q:Value→Shared→Prop}(hh:A.handled=none)(hl:s.heap.IsList a its)(bt:Nat→Nat→Bool)
 (cm:CmpOf prog w A.in1 .Gt (λi v=>its[i]?=some v) bt)
 (fin:∀v g t',(its.size=0→v=d)→(0<its.size→its[argBest bt (its.size - 1)]?=some v)→(∀b o,s.heap.get? b=some o→g.get? b=some o)→Q v {s with heap:=g,toks:=t'}):
 wpAny (model prog w) A (call (.builtin "max") [.ref a] [("default",d)]) Q E s:=by
 have nm:(toString "max"++toString ".loop":String)="max.loop":=by decide
 refine wpAny_call (codeAny_call_builtin F.plain_max F.entry_max ?_);have body:wpAny (model prog w) A.in1 (Builtin.«max» ⟨[.ref a],[("default",d)]⟩) (λfin s'=>match fin with
  | .done f=>(match(Except.ok f:Result) with | .ok (.ret v)=>Q v s' | .ok _=>False | .error e=>E e s')
  | .again c'=>c'.quiet=true∧codeAny (model prog w) A c' (λr s'=>match r with | .ok (.ret v)=>Q v s' | .ok _=>False | .error e=>E e s') s') E s:=by
  show wpAny _ A.in1 (CQ "max" ["key","default"] 0 ⟨[],[("default",d)]⟩>>=_) _ _ s;refine Aa (DQ (show CQ "max" ["key","default"] 0 ⟨[],[("default",d)]⟩=pure [none,some d] from rfl) ?_);refine Aa (Ac ?_);refine Aa (Dr hl ?_);refine Aa (AR ?_);rw[nm];obtain⟨o,ho,_⟩:=id hl;have lt:=Am ho;have sz:(s.heap.push {cls:= .type "list_iterator",data:= .fields #[.ref a,.int 0 0]}).objs.size=s.heap.objs.size+1:=Bk _ _;have kp:∀b o',s.heap.get? b=some o'→((s.heap.push {cls:= .type "list_iterator",data:= .fields #[.ref a,.int 0 0]}).push {cls:= .type "list",dict:=none,data:= .seq ([]:List Value).toArray}).get? b=some o':=
   λb o' e=>Ad _ (Ad _ e)
  refine Ac ⟨Ce CJ _,Xi d (Walks.list (A:=A.in1) hh s.heap.objs.size a (Ar lt) its) bt cm _ ?_
   ⟨⟨_,Ad _ (Ao _ rfl),rfl,rfl⟩,hl.at λo' e=>kp a o' e⟩ (Ao _ rfl) λv g t' h1 h2 h3=>?_⟩
  · show(s.heap.push _).objs.size ∉ [s.heap.objs.size,a];rw[sz];intro z;rcases Al.mp z with z | z
    · exact Nat.succ_ne_self _ z
    · have z':=Ae.mp z;rw[←z'] at lt;exact absurd lt (Nat.not_lt.mpr (De _))
  · refine fin v g t' h1 h2 λb o' e=>h3 b o' ?_ ?_ (kp b o' e)
    · intro z;exact absurd (Ae.mp z) (Ar (Am e))
    · have:=Am e;show b≠(s.heap.push _).objs.size;rw[sz];exact Ar (Ds this)
 simp only[checkBuiltinCall,F.kind_max];cases hsig:Ga "max" with
 | none=>exact Ac body
 | some sig=>
  have ha':Bind.checkArgs "max" sig ⟨[.ref a],[("default",d)]⟩=pure ():=by have:=Xh (.ref a) d;simpa only[argsOk,hsig] using this
  simp only[ha'];exact Ac body
end
section
variable{R:Result→Shared→Prop}{J:Addr}{fo wo:List Addr}{len:Nat}{At:Nat→Value→Prop}{Sx:Nat→Heap→Prop}
theorem Wk(kw:List (Str×Value))(Z:Walks prog w A.in1 J fo wo len At Sx)(bt:Nat→Nat→Bool)(cm:CmpOf prog w A.in1 .Lt At bt)(B:Addr)(nB:B ∉ fo):
 ∀(k j:Nat)(s:Shared)(best:Value)(c:Nat),len - (j+1)=k→j+1≤len→Sx (j+1) s.heap→At (argBest bt j) best→
 s.heap.get? B=some {cls:= .type "list",dict:=none,data:= .seq #[best,best] c,slots:=#[]}→
 (∀v g t',At (argBest bt (len - 1)) v→(∀b o,b ∉ wo→b≠B→s.heap.get? b=some o→g.get? b=some o)→R (.ok (.ret v)) {s with heap:=g,toks:=t'})→
 codeAny (model prog w) A (.builtin "min.loop" ⟨[.ref J,.none,.ref B],kw⟩) R s:=by
 have nW:B ∉ wo:=λz=>nB (Z.sub _ z);have nm:(toString "min"++toString ".loop":String)="min.loop":=by decide
 intro k
 induction k with
 | zero=>
  intro j s best c e0 e1 sx ab eB fin;have last:j+1=len:=by omega
  refine Ci Fc ?_;rw[Bv CK _];show wpAny _ _ (seqItems? (.ref B)>>=_) _ _ _;refine Aa (A_ eB rfl ?_);show wpAny _ _ (tryCatch (pyNext (.ref J)) _>>=_) _ _ _;refine Aa (Ct (Z.done s _ _ (last ▸ sx) λg t' kp=>?_));have eB':=kp B _ nW eB;show wpAny _ _ (updateSeq B (λ_=>#[])>>=_) _ _ _;refine Aa ?_;refine BR eB' rfl (Aa (Cs (Ac ?_)));exact fin best _ t' (by rw[←last];exact ab) λb o h1 h2 e=>(AQ _ _ (By h2)).trans (kp b o h1 e)
 | succ k ih=>
  intro j s best c e0 e1 sx ab eB fin;have more:j+1<len:=by omega
  refine Ci Fc ?_;rw[Bv CK _];show wpAny _ _ (seqItems? (.ref B)>>=_) _ _ _;refine Aa (A_ eB rfl ?_);show wpAny _ _ (tryCatch (pyNext (.ref J)) _>>=_) _ _ _;refine Aa (Ct (Z.item (j+1) s _ _ more sx λv g t' av sx' kp=>?_));have eB':=kp B _ nW eB;show wpAny _ _ (tryCatch (holding [v,v] (richCompare .Lt v best>>=_)) _>>=_) _ _ _;refine Aa (Ct (Bh (Aa (cm (j+1) (argBest bt j) v best _ _ _ av ab ?_))));refine Aa (Bh (Bs ?_));refine Aa (Cs (Ac ?_));cases hb:bt (j+1) (argBest bt j) with
  | true=>
   simp only[if_true];refine Aa ?_;refine BR eB' rfl (Aa (Cs ?_));rw[nm];refine Ac ⟨Ce CK _,ih (j+1) _ v _ (by omega) more (Z.frame _ _ _ sx' λb h1 o e=>?_) (by simp only[argBest,hb,if_true];exact av) (Ba _ eB' rfl)
    λv' g' t'' av' kp'=>?_⟩
   · exact(AQ _ _ (λz:B=b=>nB (by rw[z];exact h1))).trans e
   · exact fin v' g' t'' av' λb o h1 h2 e=>kp' b o h1 h2 ((AQ _ _ (By h2)).trans (kp b o h1 e))
  | false=> simp only[BH,if_false];refine Aa (Cs ?_);rw[nm];refine Ac ⟨Ce CK _,ih (j+1) _ best c (by omega) more sx' (by simp only[argBest,hb,BH,if_false];exact ab) eB' λv' g' t'' av' kp'=>?_⟩;exact fin v' g' t'' av' λb o h1 h2 e=>kp' b o h1 h2 (kp b o h1 e)
theorem WD(d:Value)(Z:Walks prog w A.in1 J fo wo len At Sx)(bt:Nat→Nat→Bool)(cm:CmpOf prog w A.in1 .Lt At bt)(B:Addr)(nB:B ∉ fo){c:Nat}(sx:Sx 0 s.heap)
 (eB:s.heap.get? B=some {cls:= .type "list",dict:=none,data:= .seq #[] c,slots:=#[]})
 (fin:∀v g t',(len=0→v=d)→(0<len→At (argBest bt (len - 1)) v)→(∀b o,b ∉ wo→b≠B→s.heap.get? b=some o→g.get? b=some o)→R (.ok (.ret v)) {s with heap:=g,toks:=t'}):
 codeAny (model prog w) A (.builtin "min.loop" ⟨[.ref J,.none,.ref B],[("default",d)]⟩) R s:=by
 have nW:B ∉ wo:=λz=>nB (Z.sub _ z);have nm:(toString "min"++toString ".loop":String)="min.loop":=by decide
 refine Ci Fc ?_;rw[Bv CK _];show wpAny _ _ (seqItems? (.ref B)>>=_) _ _ _;refine Aa (A_ eB rfl ?_);show wpAny _ _ (tryCatch (pyNext (.ref J)) _>>=_) _ _ _;by_cases hl:len=0
 · refine Aa (Ct (Z.done s _ _ (hl ▸ sx) λg t' kp=>?_));refine Aa (BN (Ac ?_));exact fin d g t' (λ_=>rfl) (λz=>by omega) λb o h1 _ e=>kp b o h1 e
 · refine Aa (Ct (Z.item 0 s _ _ (by omega) sx λv g t' av sx' kp=>?_));have eB':=kp B _ nW eB;show wpAny _ _ (updateSeq B (λ_=>#[v,v])>>=_) _ _ _;refine Aa ?_;refine BR eB' rfl ?_;rw[nm];refine Ac ⟨Ce CK _,Wk [("default",d)] Z bt cm B nB _ 0 _ v _ rfl (by omega) (Z.frame _ _ _ sx' λb h1 o e=>?_) av (Ba _ eB' rfl) λv' g' t'' av' kp'=>?_⟩
   · exact(AQ _ _ (λz:B=b=>nB (by rw[z];exact h1))).trans e
   · exact fin v' g' t'' (λz=>by omega) (λ_=>av') λb o h1 h2 e=>kp' b o h1 h2 ((AQ _ _ (By h2)).trans (kp b o h1 e))
theorem Xk(a d:Value):argsOk "min" ⟨[a],[("default",d)]⟩:=by unfold argsOk;kernel_rfl
theorem X7{E:Value→Shared→Prop}{its:Array Value}{d:Value}{Q:Value→Shared→Prop}(hh:A.handled=none)(hl:s.heap.IsList a its)(bt:Nat→Nat→Bool)
 (cm:CmpOf prog w A.in1 .Lt (λi v=>its[i]?=some v) bt)
 (fin:∀v g t',(its.size=0→v=d)→(0<its.size→its[argBest bt (its.size - 1)]?=some v)→(∀b o,s.heap.get? b=some o→g.get? b=some o)→Q v {s with heap:=g,toks:=t'}):
 wpAny (model prog w) A (call (.builtin "min") [.ref a] [("default",d)]) Q E s:=by
 have nm:(toString "min"++toString ".loop":String)="min.loop":=by decide
 refine wpAny_call (codeAny_call_builtin F.plain_min F.entry_min ?_);have body:wpAny (model prog w) A.in1 (Builtin.«min» ⟨[.ref a],[("default",d)]⟩) (λfin s'=>match fin with
  | .done f=>(match(Except.ok f:Result) with | .ok (.ret v)=>Q v s' | .ok _=>False | .error e=>E e s')
  | .again c'=>c'.quiet=true∧codeAny (model prog w) A c' (λr s'=>match r with | .ok (.ret v)=>Q v s' | .ok _=>False | .error e=>E e s') s') E s:=by
  show wpAny _ A.in1 (CQ "min" ["key","default"] 0 ⟨[],[("default",d)]⟩>>=_) _ _ s;refine Aa (DQ (show CQ "min" ["key","default"] 0 ⟨[],[("default",d)]⟩=pure [none,some d] from rfl) ?_);refine Aa (Ac ?_);refine Aa (Dr hl ?_);refine Aa (AR ?_);rw[nm];obtain⟨o,ho,_⟩:=id hl;have lt:=Am ho;have sz:(s.heap.push {cls:= .type "list_iterator",data:= .fields #[.ref a,.int 0 0]}).objs.size=s.heap.objs.size+1:=Bk _ _;have kp:∀b o',s.heap.get? b=some o'→((s.heap.push {cls:= .type "list_iterator",data:= .fields #[.ref a,.int 0 0]}).push {cls:= .type "list",dict:=none,data:= .seq ([]:List Value).toArray}).get? b=some o':=
   λb o' e=>Ad _ (Ad _ e)
  refine Ac ⟨Ce CK _,WD d (Walks.list (A:=A.in1) hh s.heap.objs.size a (Ar lt) its) bt cm _ ?_
   ⟨⟨_,Ad _ (Ao _ rfl),rfl,rfl⟩,hl.at λo' e=>kp a o' e⟩ (Ao _ rfl) λv g t' h1 h2 h3=>?_⟩
  · show(s.heap.push _).objs.size ∉ [s.heap.objs.size,a];rw[sz];intro z;rcases Al.mp z with z | z
    · exact Nat.succ_ne_self _ z
    · have z':=Ae.mp z;rw[←z'] at lt;exact absurd lt (Nat.not_lt.mpr (De _))
  · refine fin v g t' h1 h2 λb o' e=>h3 b o' ?_ ?_ (kp b o' e)
    · intro z;exact absurd (Ae.mp z) (Ar (Am e))
    · have:=Am e;show b≠(s.heap.push _).objs.size;rw[sz];exact Ar (Ds this)
 simp only[checkBuiltinCall,F.kind_min];cases hsig:Ga "min" with
 | none=>exact Ac body
 | some sig=>
  have ha':Bind.checkArgs "min" sig ⟨[.ref a],[("default",d)]⟩=pure ():=by have:=Xk (.ref a) d;simpa only[argsOk,hsig] using this
  simp only[ha'];exact Ac body
end
def L5(lt:Int→Int→Bool):Int→List Int→Int
 | b,[]=>b
 | b,x::r=>L5 lt (if lt x b then x else b) r
theorem SU(lt:Int→Int→Bool)(ns:List Int)(d0:Int):∀k,k<ns.length→
 ns.getD (argBest (λi j=>lt (ns.getD i d0) (ns.getD j d0)) k) d0=L5 lt (ns.getD 0 d0) ((ns.drop 1).take k)∧argBest (λi j=>lt (ns.getD i d0) (ns.getD j d0)) k<ns.length:=by
 have snoc:∀(l:List Int)(b x:Int),L5 lt b (l++[x])=if lt x (L5 lt b l) then x else L5 lt b l:=by
  intro l
  induction l with
  | nil=>intro b x;rfl
  | cons y r ih=>intro b x;exact ih _ x
 intro k
 induction k with
 | zero=>intro h;exact⟨rfl,h⟩
 | succ k ih=>
  intro h;obtain⟨i1,i2⟩:=ih (by omega);have e:(ns.drop 1).take (k+1)=(ns.drop 1).take k++[ns.getD (k+1) d0]:=by
   rw[List.take_succ,DI,Aq (by omega)];have:(1+k)=k+1:=by omega
   simp[this,Bi,Aq h]
  rw[e,snoc,←i1];show ns.getD (if lt (ns.getD (k+1) d0) (ns.getD (argBest _ k) d0)=true then k+1 else argBest _ k) d0=_∧(if lt (ns.getD (k+1) d0) (ns.getD (argBest _ k) d0)=true then k+1 else argBest _ k)<_
  by_cases hb:lt (ns.getD (k+1) d0) (ns.getD (argBest (λi j=>lt (ns.getD i d0) (ns.getD j d0)) k) d0)=true
  · rw[if_pos hb,if_pos hb];exact⟨rfl,h⟩
  · rw[if_neg hb,if_neg hb];exact⟨rfl,i2⟩
def MT(lt:Int→Int→Bool)(ns:List Int)(d:V):V:=match ns with
 | []=>d
 | x::r=> .int (L5 lt x r)
theorem LH{ns:List Int}{its:List Value}(r:Vals (ns.map V.int) its){v:Value}(h:its.toArray[i]?=some v):∃t,v=Value.int (ns.getD i 0) t:=by
 have hi:its[i]?=some v:=by simpa using h
 have hl:i<its.length:=(An.mp hi).1;have ll:=r.length;rw[Ab] at ll;have e:(ns.map V.int)[i]?=some (.int (ns.getD i 0)):=by rw[Af,Aq (by omega),Bi,Aq (by omega)];rfl
 obtain⟨u,h1,h2⟩:=Vals.get r e;rw[hi] at h1;cases h1;exact h2
def NS(X:Cx)(f:Value)(ks:List Str)(r:List V→List V→Hp→VK→Prop):Prop:=
 ∀(pins:List (Addr×Obj))(s:Shared)(σ:St)(H:Hp)(xs zs:List V)(us ws:List Value)(Q:VK),Inv X pins σ H s→Vals xs us→Vals zs ws→r xs zs H Q→wpAny (model X.prog X.w) X.A (call f us (ks.zip ws)) (EP X pins σ Q) X.xe s
def Pk(r:List V→List V→Hp→VK→Prop)(t tk:TA):TE:=λσ H Q=>t σ H λvs H1=>tk σ H1 λzs H2=>r vs zs H2 Q
theorem RZ{id:String}{ks:List Str}{r:List V→List V→Hp→VK→Prop}{es:List Expr}{kws:List Keyword}{t tk:TA}{p pos:Pos}(hc:NS X (.builtin id) ks r)(hg:Gl X x)(hm:X.mg x=none)(hv:Bd x=some (.builtin id))(ha:PA X (e::es) t)(hkw:PK X kws tk)
 (hks:(backToKw pos (keywordEach kws X.env)).filterMap (·.1)=ks:=by rfl) (hn:x≠"__name__":=by decide) (hdb:(x==("__debug__":Str))=false:=by decide)
 (he:backTo pos (AL (e::es) X.env)=(false,eval e X.env)::backTo pos (AL es X.env):=by rfl) (hpl:(backTo pos (AL (e::es) X.env)).any (·.1)=false:=by rfl)
 (hall:(backToKw pos (keywordEach kws X.env)).all (·.1.isSome)=true:=by rfl) (hkn:(backToKw pos (keywordEach kws X.env)).any (·.1.isNone)=false:=by rfl):
 PE X (.Call (.Name x p) (e::es) kws pos) (Pk r t tk):=by
 intro pins s σ H Q I h;refine BU (JZ I hg hm hv ?_ hn hdb);refine callWith_kw (Hj (ha pos pins s σ H _ I h) λus s1 ⟨vs,H1,I1,r1,q1⟩=>?_) he hpl hall hkn;refine Hj (hkw pos pins s1 σ H1 _ I1 q1) λws s2 ⟨zs,H2,I2,r2,q2⟩=>?_;rw[hks];exact hc pins s2 σ H2 vs zs us ws Q I2 r1 r2 q2
theorem VM(hc:X.calm=true):NS X (.builtin "max") ["default"] (λxs zs H Q=>∃a ns d,xs=[.ref a]∧zs=[d]∧SqL X.K H a (ns.map V.int)∧Q (MT (λi j=>decide (j<i)) ns d) H):=by
 intro pins s σ H xs zs us ws Q I r1 r2 h;obtain⟨a,ns,d,rfl,rfl,hq,q⟩:=h;obtain⟨u,rfl,ru⟩:=Jy r1;obtain⟨z,rfl,rz⟩:=Jy r2;cases ru;obtain⟨its,rv,p,_⟩:=I.list hq;have ll:=rv.length;rw[Ab] at ll;refine X6 (I.ok.hd hc) p.isList (λi j=>decide (ns.getD j 0<ns.getD i 0)) (λi j vi vj s' Q' E' hi hj q'=>?_) λv g t' h1 h2 h3=>?_
 · obtain⟨t1,rfl⟩:=LH rv hi;obtain⟨t2,rfl⟩:=LH rv hj;exact gt_int q'
 · refine⟨_,H,I.kept h3,?_,q⟩;cases ns with
   | nil=>
    have e:its.toArray.size=0:=by simp;simpa using ll.symm
    rw[h1 e];exact rz
   | cons x rr=>
    simp only[AN] at ll;have e:0<its.toArray.size:=by simp;omega
    have hv:=h2 e;obtain⟨t,rfl⟩:=LH rv hv;have ee:its.toArray.size - 1=rr.length:=by simp;omega
    rw[ee];have:=(SU (λi j=>decide (j<i)) (x::rr) 0 rr.length (by simp)).1;have e2:((x::rr).drop 1).take rr.length=rr:=by simp
    rw[e2] at this;refine⟨t,?_⟩;rw[this];rfl
theorem VO(hc:X.calm=true):NS X (.builtin "min") ["default"] (λxs zs H Q=>∃a ns d,xs=[.ref a]∧zs=[d]∧SqL X.K H a (ns.map V.int)∧Q (MT (λi j=>decide (i<j)) ns d) H):=by
 intro pins s σ H xs zs us ws Q I r1 r2 h;obtain⟨a,ns,d,rfl,rfl,hq,q⟩:=h;obtain⟨u,rfl,ru⟩:=Jy r1;obtain⟨z,rfl,rz⟩:=Jy r2;cases ru;obtain⟨its,rv,p,_⟩:=I.list hq;have ll:=rv.length;rw[Ab] at ll;refine X7 (I.ok.hd hc) p.isList (λi j=>decide (ns.getD i 0<ns.getD j 0)) (λi j vi vj s' Q' E' hi hj q'=>?_) λv g t' h1 h2 h3=>?_
 · obtain⟨t1,rfl⟩:=LH rv hi;obtain⟨t2,rfl⟩:=LH rv hj;exact lt_int q'
 · refine⟨_,H,I.kept h3,?_,q⟩;cases ns with
   | nil=>
    have e:its.toArray.size=0:=by simp;simpa using ll.symm
    rw[h1 e];exact rz
   | cons x rr=>
    simp only[AN] at ll;have e:0<its.toArray.size:=by simp;omega
    have hv:=h2 e;obtain⟨t,rfl⟩:=LH rv hv;have ee:its.toArray.size - 1=rr.length:=by simp;omega
    rw[ee];have:=(SU (λi j=>decide (i<j)) (x::rr) 0 rr.length (by simp)).1;have e2:((x::rr).drop 1).take rr.length=rr:=by simp
    rw[e2] at this;refine⟨t,?_⟩;rw[this];rfl
theorem VW(I:Inv X pins σ H s)(A:Cy)(d e:PD)(v w:V)(u y:Value)(h:Hi X.K H d v)(h':Hi X.K H e w)(r:RelV v u)(r':RelV w y)(z:A.units+ID d<cLine):SeqAt.RcAt A s u y (HE d e):=by
 cases d with
 | non=>
  rw[Hi] at h;subst h;cases r;cases e with
  | non=> rw[Hi] at h';subst h';cases r';rw[HE];exact SeqAt.RcAt.none_none
  | bl b=> rw[Hi] at h';subst h';cases r';exact SeqAt.RcAt.none_bool b
  | int b=> rw[Hi] at h';subst h';obtain⟨t,rfl⟩:=r';exact SeqAt.RcAt.none_int b t
  | str b=> rw[Hi] at h';subst h';obtain⟨t,rfl⟩:=r';exact SeqAt.RcAt.none_str b t
  | lst es=> rw[Hi] at h';obtain⟨b,ys,rfl,q',qs'⟩:=h';cases r';obtain⟨its',rv',p',_⟩:=I.list q';exact SeqAt.RcAt.none_list p'.isList (by omega)
  | tup es=> rw[Hi] at h';obtain⟨b,ys,rfl,q',qs'⟩:=h';cases r';obtain⟨its',rv',p',_⟩:=I.tuple q';exact SeqAt.RcAt.none_tuple p' (by omega)
 | bl c=>
  rw[Hi] at h;subst h;cases r;cases e with
  | non=> rw[Hi] at h';subst h';cases r';exact SeqAt.RcAt.bool_none c
  | bl b=> rw[Hi] at h';subst h';cases r';exact SeqAt.RcAt.bool_bool c b
  | int b=> rw[Hi] at h';subst h';obtain⟨t,rfl⟩:=r';exact SeqAt.RcAt.bool_int c b t
  | str b=> rw[Hi] at h';subst h';obtain⟨t,rfl⟩:=r';exact SeqAt.RcAt.bool_str c b t
  | lst es=> rw[Hi] at h';obtain⟨b,ys,rfl,q',qs'⟩:=h';cases r';obtain⟨its',rv',p',_⟩:=I.list q';exact SeqAt.RcAt.bool_list c p'.isList (by omega)
  | tup es=> rw[Hi] at h';obtain⟨b,ys,rfl,q',qs'⟩:=h';cases r';obtain⟨its',rv',p',_⟩:=I.tuple q';exact SeqAt.RcAt.bool_tuple c p' (by omega)
 | int c=>
  rw[Hi] at h;subst h;obtain⟨tc,rfl⟩:=r;cases e with
  | non=> rw[Hi] at h';subst h';cases r';exact SeqAt.RcAt.int_none c tc
  | bl b=> rw[Hi] at h';subst h';cases r';exact SeqAt.RcAt.int_bool c tc b
  | int b=> rw[Hi] at h';subst h';obtain⟨t,rfl⟩:=r';exact SeqAt.RcAt.int_int c tc b t
  | str b=> rw[Hi] at h';subst h';obtain⟨t,rfl⟩:=r';exact SeqAt.RcAt.int_str c tc b t
  | lst es=> rw[Hi] at h';obtain⟨b,ys,rfl,q',qs'⟩:=h';cases r';obtain⟨its',rv',p',_⟩:=I.list q';exact SeqAt.RcAt.int_list c tc p'.isList (by omega)
  | tup es=> rw[Hi] at h';obtain⟨b,ys,rfl,q',qs'⟩:=h';cases r';obtain⟨its',rv',p',_⟩:=I.tuple q';exact SeqAt.RcAt.int_tuple c tc p' (by omega)
 | str c=>
  rw[Hi] at h;subst h;obtain⟨tc,rfl⟩:=r;cases e with
  | non=> rw[Hi] at h';subst h';cases r';exact SeqAt.RcAt.str_none c tc
  | bl b=> rw[Hi] at h';subst h';cases r';exact SeqAt.RcAt.str_bool c tc b
  | int b=> rw[Hi] at h';subst h';obtain⟨t,rfl⟩:=r';exact SeqAt.RcAt.str_int c tc b t
  | str b=> rw[Hi] at h';subst h';obtain⟨t,rfl⟩:=r';exact SeqAt.RcAt.str_str c tc b t
  | lst es=> rw[Hi] at h';obtain⟨b,ys,rfl,q',qs'⟩:=h';cases r';obtain⟨its',rv',p',_⟩:=I.list q';exact SeqAt.RcAt.str_list c tc p'.isList (by omega)
  | tup es=> rw[Hi] at h';obtain⟨b,ys,rfl,q',qs'⟩:=h';cases r';obtain⟨its',rv',p',_⟩:=I.tuple q';exact SeqAt.RcAt.str_tuple c tc p' (by omega)
 | lst ds=>
  rw[Hi] at h;obtain⟨a,xs,rfl,q,qs⟩:=h;cases r;obtain⟨its,rv,p,_⟩:=I.list q;cases e with
  | non=> rw[Hi] at h';subst h';cases r';exact SeqAt.RcAt.list_none p.isList (by omega)
  | bl b=> rw[Hi] at h';subst h';cases r';exact SeqAt.RcAt.list_bool b p.isList (by omega)
  | int b=> rw[Hi] at h';subst h';obtain⟨t,rfl⟩:=r';exact SeqAt.RcAt.list_int b t p.isList (by omega)
  | str b=> rw[Hi] at h';subst h';obtain⟨t,rfl⟩:=r';exact SeqAt.RcAt.list_str b t p.isList (by omega)
  | lst es=>
   rw[Hi] at h';obtain⟨b,ys,rfl,q',qs'⟩:=h';cases r';obtain⟨its',rv',p',_⟩:=I.list q';rw[HE];rw[ID] at z;have l1:=qs.length;have l2:=qs'.length;have l3:=rv.length;have l4:=rv'.length;by_cases hl:ds.length=es.length
   · rw[←Lk ds es hl];have:=SeqAt.RcAt.lists (e:=KL ds es) p.isList p'.isList (by simp;omega) (by omega) (λj h1 h2=>?_) (A:=A)
     · simp only[Aw] at this;rw[show ds.length=its.length by omega];exact this
     · have:=Li I A.in1 ds es xs ys its its' qs qs' rv rv' (by rw[Di];omega) j (by simpa using h1) (by simpa using h2);simpa using this
   · rw[KE hl];exact Fa p.isList p'.isList (by simp;omega) (by omega)
  | tup es=> rw[Hi] at h';obtain⟨b,ys,rfl,q',qs'⟩:=h';cases r';obtain⟨its',rv',p',_⟩:=I.tuple q';exact SeqAt.RcAt.list_tuple p.isList p' (by omega)
 | tup ds=>
  rw[Hi] at h;obtain⟨a,xs,rfl,q,qs⟩:=h;cases r;obtain⟨its,rv,p,_⟩:=I.tuple q;cases e with
  | non=> rw[Hi] at h';subst h';cases r';exact SeqAt.RcAt.tuple_none p (by omega)
  | bl b=> rw[Hi] at h';subst h';cases r';exact SeqAt.RcAt.tuple_bool b p (by omega)
  | int b=> rw[Hi] at h';subst h';obtain⟨t,rfl⟩:=r';exact SeqAt.RcAt.tuple_int b t p (by omega)
  | str b=> rw[Hi] at h';subst h';obtain⟨t,rfl⟩:=r';exact SeqAt.RcAt.tuple_str b t p (by omega)
  | lst es=> rw[Hi] at h';obtain⟨b,ys,rfl,q',qs'⟩:=h';cases r';obtain⟨its',rv',p',_⟩:=I.list q';exact SeqAt.RcAt.tuple_list p p'.isList (by omega)
  | tup es=>
   rw[Hi] at h';obtain⟨b,ys,rfl,q',qs'⟩:=h';cases r';obtain⟨its',rv',p',_⟩:=I.tuple q';rw[HE];rw[ID] at z;have l1:=qs.length;have l2:=qs'.length;have l3:=rv.length;have l4:=rv'.length;have:=SeqAt.RcAt.tuples (e:=KL ds es) p p' (by omega) (λj h1 h2=>?_) (A:=A)
   · simp only[Aw] at this;by_cases hl:ds.length=es.length
     · rw[←Lk ds es hl];rw[show min its.length its'.length=ds.length by omega,show(its.length==its'.length)=true by simp;omega,DV] at this;exact this
     · rw[KE hl];rw[show(its.length==its'.length)=false by simp;omega,Eu] at this;exact this
   · have:=Li I A.in1 ds es xs ys its its' qs qs' rv rv' (by rw[Di];omega) j (by simpa using h1) (by simpa using h2);simpa using this
theorem WR(I:Inv X pins σ H s)(A:Cy)(d e:PD)(v w:V)(u y:Value)(h:Hi X.K H d v)(h':Hi X.K H e w)(r:RelV v u)(r':RelV w y)(z:A.units+ID d<cLine):SeqAt.RcNeAt A s u y (!HE d e):=by
 cases d with
 | non=>
  rw[Hi] at h;subst h;cases r;cases e with
  | non=> rw[Hi] at h';subst h';cases r';rw[HE];exact SeqAt.RcNeAt.none_none
  | bl b=> rw[Hi] at h';subst h';cases r';exact SeqAt.RcNeAt.none_bool b
  | int b=> rw[Hi] at h';subst h';obtain⟨t,rfl⟩:=r';exact SeqAt.RcNeAt.none_int b t
  | str b=> rw[Hi] at h';subst h';obtain⟨t,rfl⟩:=r';exact SeqAt.RcNeAt.none_str b t
  | lst es=> rw[Hi] at h';obtain⟨b,ys,rfl,q',qs'⟩:=h';cases r';obtain⟨its',rv',p',_⟩:=I.list q';exact SeqAt.RcNeAt.none_list p'.isList (by omega)
  | tup es=> rw[Hi] at h';obtain⟨b,ys,rfl,q',qs'⟩:=h';cases r';obtain⟨its',rv',p',_⟩:=I.tuple q';exact SeqAt.RcNeAt.none_tuple p' (by omega)
 | bl c=>
  rw[Hi] at h;subst h;cases r;cases e with
  | non=> rw[Hi] at h';subst h';cases r';exact SeqAt.RcNeAt.bool_none c
  | bl b=> rw[Hi] at h';subst h';cases r';exact SeqAt.RcNeAt.bool_bool c b
  | int b=> rw[Hi] at h';subst h';obtain⟨t,rfl⟩:=r';exact SeqAt.RcNeAt.bool_int c b t
  | str b=> rw[Hi] at h';subst h';obtain⟨t,rfl⟩:=r';exact SeqAt.RcNeAt.bool_str c b t
  | lst es=> rw[Hi] at h';obtain⟨b,ys,rfl,q',qs'⟩:=h';cases r';obtain⟨its',rv',p',_⟩:=I.list q';exact SeqAt.RcNeAt.bool_list c p'.isList (by omega)
  | tup es=> rw[Hi] at h';obtain⟨b,ys,rfl,q',qs'⟩:=h';cases r';obtain⟨its',rv',p',_⟩:=I.tuple q';exact SeqAt.RcNeAt.bool_tuple c p' (by omega)
 | int c=>
  rw[Hi] at h;subst h;obtain⟨tc,rfl⟩:=r;cases e with
  | non=> rw[Hi] at h';subst h';cases r';exact SeqAt.RcNeAt.int_none c tc
  | bl b=> rw[Hi] at h';subst h';cases r';exact SeqAt.RcNeAt.int_bool c tc b
  | int b=> rw[Hi] at h';subst h';obtain⟨t,rfl⟩:=r';exact SeqAt.RcNeAt.int_int c tc b t
  | str b=> rw[Hi] at h';subst h';obtain⟨t,rfl⟩:=r';exact SeqAt.RcNeAt.int_str c tc b t
  | lst es=> rw[Hi] at h';obtain⟨b,ys,rfl,q',qs'⟩:=h';cases r';obtain⟨its',rv',p',_⟩:=I.list q';exact SeqAt.RcNeAt.int_list c tc p'.isList (by omega)
  | tup es=> rw[Hi] at h';obtain⟨b,ys,rfl,q',qs'⟩:=h';cases r';obtain⟨its',rv',p',_⟩:=I.tuple q';exact SeqAt.RcNeAt.int_tuple c tc p' (by omega)
 | str c=>
  rw[Hi] at h;subst h;obtain⟨tc,rfl⟩:=r;cases e with
  | non=> rw[Hi] at h';subst h';cases r';exact SeqAt.RcNeAt.str_none c tc
  | bl b=> rw[Hi] at h';subst h';cases r';exact SeqAt.RcNeAt.str_bool c tc b
  | int b=> rw[Hi] at h';subst h';obtain⟨t,rfl⟩:=r';exact SeqAt.RcNeAt.str_int c tc b t
  | str b=> rw[Hi] at h';subst h';obtain⟨t,rfl⟩:=r';exact SeqAt.RcNeAt.str_str c tc b t
  | lst es=> rw[Hi] at h';obtain⟨b,ys,rfl,q',qs'⟩:=h';cases r';obtain⟨its',rv',p',_⟩:=I.list q';exact SeqAt.RcNeAt.str_list c tc p'.isList (by omega)
  | tup es=> rw[Hi] at h';obtain⟨b,ys,rfl,q',qs'⟩:=h';cases r';obtain⟨its',rv',p',_⟩:=I.tuple q';exact SeqAt.RcNeAt.str_tuple c tc p' (by omega)
 | lst ds=>
  rw[Hi] at h;obtain⟨a,xs,rfl,q,qs⟩:=h;cases r;obtain⟨its,rv,p,_⟩:=I.list q;cases e with
  | non=> rw[Hi] at h';subst h';cases r';exact SeqAt.RcNeAt.list_none p.isList (by omega)
  | bl b=> rw[Hi] at h';subst h';cases r';exact SeqAt.RcNeAt.list_bool b p.isList (by omega)
  | int b=> rw[Hi] at h';subst h';obtain⟨t,rfl⟩:=r';exact SeqAt.RcNeAt.list_int b t p.isList (by omega)
  | str b=> rw[Hi] at h';subst h';obtain⟨t,rfl⟩:=r';exact SeqAt.RcNeAt.list_str b t p.isList (by omega)
  | lst es=>
   rw[Hi] at h';obtain⟨b,ys,rfl,q',qs'⟩:=h';cases r';obtain⟨its',rv',p',_⟩:=I.list q';rw[HE];rw[ID] at z;have l1:=qs.length;have l2:=qs'.length;have l3:=rv.length;have l4:=rv'.length;by_cases hl:ds.length=es.length
   · rw[←Lk ds es hl];have:=SeqAt.RcNeAt.lists (e:=KL ds es) p.isList p'.isList (by simp;omega) (by omega) (λj h1 h2=>?_) (A:=A)
     · simp only[Aw] at this;rw[show ds.length=its.length by omega];exact this
     · have:=Li I A.in1 ds es xs ys its its' qs qs' rv rv' (by rw[Di];omega) j (by simpa using h1) (by simpa using h2);simpa using this
   · rw[KE hl];exact SeqAt.RcNeAt.lists_lengths p.isList p'.isList (by simp;omega) (by omega)
  | tup es=> rw[Hi] at h';obtain⟨b,ys,rfl,q',qs'⟩:=h';cases r';obtain⟨its',rv',p',_⟩:=I.tuple q';exact SeqAt.RcNeAt.list_tuple p.isList p' (by omega)
 | tup ds=>
  rw[Hi] at h;obtain⟨a,xs,rfl,q,qs⟩:=h;cases r;obtain⟨its,rv,p,_⟩:=I.tuple q;cases e with
  | non=> rw[Hi] at h';subst h';cases r';exact SeqAt.RcNeAt.tuple_none p (by omega)
  | bl b=> rw[Hi] at h';subst h';cases r';exact SeqAt.RcNeAt.tuple_bool b p (by omega)
  | int b=> rw[Hi] at h';subst h';obtain⟨t,rfl⟩:=r';exact SeqAt.RcNeAt.tuple_int b t p (by omega)
  | str b=> rw[Hi] at h';subst h';obtain⟨t,rfl⟩:=r';exact SeqAt.RcNeAt.tuple_str b t p (by omega)
  | lst es=> rw[Hi] at h';obtain⟨b,ys,rfl,q',qs'⟩:=h';cases r';obtain⟨its',rv',p',_⟩:=I.list q';exact SeqAt.RcNeAt.tuple_list p p'.isList (by omega)
  | tup es=>
   rw[Hi] at h';obtain⟨b,ys,rfl,q',qs'⟩:=h';cases r';obtain⟨its',rv',p',_⟩:=I.tuple q';rw[HE];rw[ID] at z;have l1:=qs.length;have l2:=qs'.length;have l3:=rv.length;have l4:=rv'.length;have:=SeqAt.RcNeAt.tuples (e:=KL ds es) p p' (by omega) (λj h1 h2=>?_) (A:=A)
   · simp only[Aw] at this;by_cases hl:ds.length=es.length
     · rw[←Lk ds es hl];rw[show min its.length its'.length=ds.length by omega,show(its.length==its'.length)=true by simp;omega,DV] at this;exact this
     · rw[KE hl];rw[show(its.length==its'.length)=false by simp;omega,Eu] at this;exact this
   · have:=Li I A.in1 ds es xs ys its its' qs qs' rv rv' (by rw[Di];omega) j (by simpa using h1) (by simpa using h2);simpa using this
def MS(X:Cx):Prop:=X.A.units+60<cLine
def Pq(K:Ai):R2:=λx y H Q=>∃d e,Hi K H d x∧Hi K H e y∧ID d<60∧Q (.bl (HE d e)) H
def Mx(K:Ai):R2:=λx y H Q=>∃d e,Hi K H d x∧Hi K H e y∧ID d<60∧Q (.bl (!HE d e)) H
theorem Qm(hr:MS X):Ie X (BD .Eq) (Pq X.K):=by intro pins s σ H x y v u Q I rx ry h;obtain⟨d,e,h1,h2,h3,q⟩:=h;unfold MS at hr;exact VW I X.A d e x y v u h1 h2 rx ry (by omega) X.prog X.w _ _ ⟨.bl _,H,I,rfl,q⟩
theorem Qn(hr:MS X):Ie X (BD .NotEq) (Mx X.K):=by intro pins s σ H x y v u Q I rx ry h;obtain⟨d,e,h1,h2,h3,q⟩:=h;unfold MS at hr;exact WR I X.A d e x y v u h1 h2 rx ry (by omega) X.prog X.w _ _ ⟨.bl _,H,I,rfl,q⟩
theorem Ng{k:Nat}(hr:Room k A):A.units+60<cLine:=BW (F_ (by decide:60≤64) _) hr.units
theorem Kj{n:String}:J5 X (.builtin "isinstance") (λxs H Q=>∃x t c b,xs=[x,.ty c]∧TyOf X.K H x (.type t)∧PySem.W.kitOne X.K (.type t) (.type c)=some b∧Q (.bl b) H):=by intro pins s σ H xs us Q I r h;obtain⟨x,t,c,b,rfl,ty,e,q⟩:=h;obtain⟨u,w',rfl,ru,rw'⟩:=MV r;cases rw';exact VB I ru ty e λtk=>⟨.bl b,H,I.tok tk,rfl,q⟩
section
variable{p:Addr}{g:TG}{tc:TT}{te:TE}{Q:VK}
abbrev KU(p:Addr)(g:TG)(tc:TT)(te:TE)(ys:List V)(x:V)(σ:St)(H:Hp)(N:St→List V→Hp→Prop):Prop:=
 g x σ H λσ2 H2=>tc σ2 H2 λb H3=>if b=true then te σ2 H3 λy H4=>H4 p=some (.lst ys)∧N σ2 (ys++[y]) (Hh H4 p (.lst (ys++[y]))) else N σ2 ys H3
theorem L6{n:Nat}{J:It}{js:Im}(Pv:Nat→St→List V→Hp→Prop)(h0:Pv 0 (IJ js σ) [] (Hh H p (.lst [])))
 (hl:∀i σ ys H,i≤n→Pv i σ ys H→H p=some (.lst ys)∧ys.length<Av)
 (hgo:∀i σ ys H,i<n→Pv i σ ys H→J.go i H) (hst:∀σ ys H,Pv n σ ys H→J.stop n H)
 (hs:∀(i:Nat)x σ ys H H'(N:St→List V→Hp→Prop),i<n→J.yld i H x H'→Pv i σ ys H→(∀σ' ys' H',Pv (i+1) σ' ys' H'→N σ' ys' H')→KU p g tc te ys x σ H' N)
 (hd:∀σ ys H,Pv n σ ys H→Q (.ref p) H):
 JF J p js g tc te σ H Q:=by
 refine⟨λi m σ ys H=>m=n - i∧i≤n∧Pv i σ ys H,⟨n,by simp,Bo _,h0⟩,?_⟩;rintro i m σ ys H ⟨rfl,hi,pv⟩;obtain⟨q1,q2⟩:=hl i σ ys H hi pv;refine⟨q1,?_⟩;by_cases lt:i<n
 · exact .inr ⟨hgo i σ ys H lt pv,q2,λx H' y=>hs i x σ ys H H' (λσ2 ys2 H2=>∃m',m'<n - i∧m'=n - (i+1)∧i+1≤n∧Pv (i+1) σ2 ys2 H2) lt y pv λσ' ys' H' p'=>⟨n - (i+1),by omega,rfl,lt,p'⟩⟩
 · have e:i=n:=by omega
   subst e;exact .inl ⟨hst σ ys H pv,hd σ ys H pv⟩
theorem Ks{js:Im}(Pv:Nat→St→List V→Hp→Prop)(h0:Pv 0 (IJ js σ) [] (Hh H p (.lst [])))
 (hl:∀i σ ys H,i≤xs.length→Pv i σ ys H→SqL K H a xs∧H p=some (.lst ys)∧ys.length<Av)
 (hs:∀(i:Nat)x σ ys H(N:St→List V→Hp→Prop),xs[i]?=some x→Pv i σ ys H→(∀σ' ys' H',Pv (i+1) σ' ys' H'→N σ' ys' H')→KU p g tc te ys x σ H N)
 (hd:∀σ ys H,Pv xs.length σ ys H→Q (.ref p) H):JF (JJ K a) p js g tc te σ H Q:=
 L6 (n:=xs.length) (J:=JJ K a) (js:=js) (σ:=σ) (H:=H) (p:=p) (Q:=Q) (g:=g) (tc:=tc) (te:=te) Pv h0 (λi σ ys H hi pv=>(hl i σ ys H hi pv).2)
  (λi σ ys H hi pv=>⟨xs,xs[i],(hl i σ ys H (AU hi) pv).1,by simp[hi]⟩) (λσ ys H pv=>⟨xs,(hl _ σ ys H (Ag _) pv).1,Ag _⟩)
  (λi x σ ys H H' N hi y pv hN=>by obtain⟨e,y⟩:=y;subst e;exact hs i x σ ys _ N (y xs (hl i σ ys _ (AU hi) pv).1) pv hN) hd
theorem NW{js:Im}(Pv:Nat→St→List V→Hp→Prop)(h0:Pv 0 (IJ js σ) [] (Hh H p (.lst [])))
 (hl:∀i σ ys H,i≤xs.length→Pv i σ ys H→SqT K H a xs∧H p=some (.lst ys)∧ys.length<Av)
 (hs:∀(i:Nat)x σ ys H(N:St→List V→Hp→Prop),xs[i]?=some x→Pv i σ ys H→(∀σ' ys' H',Pv (i+1) σ' ys' H'→N σ' ys' H')→KU p g tc te ys x σ H N)
 (hd:∀σ ys H,Pv xs.length σ ys H→Q (.ref p) H):JF (Ko K a) p js g tc te σ H Q:=
 L6 (n:=xs.length) (J:=Ko K a) (js:=js) (σ:=σ) (H:=H) (p:=p) (Q:=Q) (g:=g) (tc:=tc) (te:=te) Pv h0 (λi σ ys H hi pv=>(hl i σ ys H hi pv).2)
  (λi σ ys H hi pv=>⟨xs,xs[i],(hl i σ ys H (AU hi) pv).1,by simp[hi]⟩) (λσ ys H pv=>⟨xs,(hl _ σ ys H (Ag _) pv).1,Ag _⟩)
  (λi x σ ys H H' N hi y pv hN=>by obtain⟨e,y⟩:=y;subst e;exact hs i x σ ys _ N (y xs (hl i σ ys _ (AU hi) pv).1) pv hN) hd
theorem Rr{js:Im}{lo:Int}{n:Nat}(Pv:Nat→St→List V→Hp→Prop)(h0:Pv 0 (IJ js σ) [] (Hh H p (.lst [])))
 (hl:∀i σ ys H,i≤n→Pv i σ ys H→H p=some (.lst ys)∧ys.length<Av)
 (hs:∀(i:Nat)σ ys H(N:St→List V→Hp→Prop),i<n→Pv i σ ys H→(∀σ' ys' H',Pv (i+1) σ' ys' H'→N σ' ys' H')→KU p g tc te ys (.int (lo+i)) σ H N)
 (hd:∀σ ys H,Pv n σ ys H→Q (.ref p) H):JF (KN lo n) p js g tc te σ H Q:=
 L6 (n:=n) (J:=KN lo n) (js:=js) (σ:=σ) (H:=H) (p:=p) (Q:=Q) (g:=g) (tc:=tc) (te:=te) Pv h0 hl
  (λi σ ys H hi pv=>hi) (λσ ys H pv=>Ag n)
  (λi x σ ys H H' N hi y pv hN=>by obtain⟨e,y⟩:=y;subst e y;exact hs i σ ys _ N hi pv hN) hd
end
def Rk(outer:Scope)(N N':List Str)(js:Im)(scope:Scope):Bool:=
 decide (js.length=N'.length) && (scope.kind== .function) && scope.names.all (λp=>(p.2 != .cell || scope.names.lookup p.1==some .cell) && (p.2 != .local || scope.names.lookup p.1==some .local) && (p.2 != .free || (outer.names.lookup p.1==some .cell || outer.names.lookup p.1==some .free)))
  && (Bf js.length).all λi=>match js[i]? with
   | some (some j)=>(match N'[i]? with | some x=>N[j]?==some x && scope.names.lookup x==some .free | none=>false)
   | _=>true
theorem IH{N N':List Str}{js:Im}{outer:Scope}(h:Rk outer N N' js scope=true)(hN:X.N=N:=by rfl)(ho:X.env.scope=outer:=by rfl):CapOk X N' js scope:=by
 subst hN ho;unfold Rk at h;rw[Ay,Ay,Ay] at h;obtain⟨⟨⟨h1,h2⟩,h3⟩,h4⟩:=h;rw[AI] at h3 h4;refine⟨of_decide_eq_true h1,eq_of_beq h2,λp hp e=>?_,λp hp e=>?_,λp hp e=>?_,λi j e=>?_⟩
 · have:=h3 p hp;rw[e] at this;simp at this;exact this
 · have:=h3 p hp;rw[e] at this;simp at this;exact this
 · have:=h3 p hp;rw[e] at this;simp at this;exact this
 · have hi:i<js.length:=(An.mp e).1;have:=h4 i (CI.mpr hi);rw[e] at this;simp only at this;cases q:N'[i]? with
   | none=>rw[q] at this;cases this
   | some x=> rw[q] at this;simp only[Ay,beq_iff_eq] at this;exact⟨x,rfl,this.1,this.2⟩
def H_(P:Bt)(w:World)(K:Ai)(mg:Str→Option Value)(base:Heap)(k:Nat)(x:Str)(ps:List Str)(sp:Sp):Prop:=
 ∃f fd,FnOk P w K mg base HJ k f fd ps sp∧Binds K fd ps []∧Df K (.ref f)=true∧mg x=some (.ref f)
section
variable{k:Nat}{ps:List Str}{sp:Sp}{es:List Expr}{t:TA}{p:Pos}
theorem Hz(F:H_ X.prog X.w X.K X.mg X.base k x ps sp)(hr:Room k X.A)(hg:Gl X x)(ha:PA X (e::es) t)(hdb:(x==("__debug__":Str))=false:=by decide)
 (he:AL (e::es) X.env=(false,eval e X.env)::AL es X.env:=by rfl) (hpl:(backTo pos (AL es X.env)).any (·.1)=false:=by rfl):PE X (.Call (.Name x p) (e::es) [] pos) (NM sp [] E0 t):=by
 obtain⟨f,fd,h1,h2,h3,h4⟩:=F;exact QX h1 hr hg h4 h3 h2 .nil PY ha hdb he hpl
end
structure Bl(mg:Str→Option Value):Prop where
 len_:mg "len"=none
 range_:mg "range"=none
 isinstance_:mg "isinstance"=none
 int_:mg "int"=none
 bool_:mg "bool"=none
 tuple_:mg "tuple"=none
 list_:mg "list"=none
 max_:mg "max"=none
 min_:mg "min"=none
 all_:mg "all"=none
 zip_:mg "zip"=none
 str_:mg "str"=none
 dict_:mg "dict"=none
 sorted_:mg "sorted"=none
 set_:mg "set"=none
 any_:mg "any"=none
 sum_:mg "sum"=none
 enumerate_:mg "enumerate"=none
 repr_:mg "repr"=none
 ord_:mg "ord"=none
 chr_:mg "chr"=none
 abs_:mg "abs"=none
 reversed_:mg "reversed"=none
theorem Q2:Bd "int"=some (.type "int"):=by decide+kernel
theorem QE:Bd "bool"=some (.type "bool"):=by decide+kernel
theorem Lb:Bd "tuple"=some (.type "tuple"):=by decide+kernel
theorem L_:Bd "list"=some (.type "list"):=by decide+kernel
theorem TY:Bd "str"=some (.type "str"):=by decide+kernel
theorem Kk:Bd "isinstance"=some (.builtin "isinstance"):=by decide+kernel
theorem IC:Bd "len"=some (.builtin "len"):=by decide+kernel
theorem TX:Bd "max"=some (.builtin "max"):=by decide+kernel
theorem Q3:Bd "min"=some (.builtin "min"):=by decide+kernel
theorem KW:Bd "all"=some (.builtin "all"):=by decide+kernel
theorem Op:Bd "sorted"=some (.builtin "sorted"):=by decide+kernel
theorem Kq(h:n≤1000):n≤Av:=AU (IB h)
theorem Hx{p:Addr}(h:H p=none)(o:HO):Same H (Hh H p o):=λb u q=>by rw[HC (Jf q h)];exact q
def eV:Option Int→V
 | none=> .non
 | some i=> .int i
theorem Sf(o:Option Int):(!decide (eV o=V.non))=o.isSome:=by
 cases o with
 | none=>rfl
 | some i=>rfl
def SameB(b g:Addr)(H H':Hp):Prop:=∀a o,H a=some o→a≠b→a≠g→H' a=some o
theorem SameB.refl(b g:Addr)(H:Hp):SameB b g H H:=λ_ _ h _ _=>h
theorem SameB.trans{g:Addr}{H1 H2:Hp}(x:SameB b g H H1)(y:SameB b g H1 H2):SameB b g H H2:=λa o h n1 n2=>y a o (x a o h n1 n2) n1 n2
theorem Same.sameB{g:Addr}{H1:Hp}(x:Same H H1):SameB b g H H1:=λa o h _ _=>x a o h
theorem Ry:∀ns:List Int,Reps K H (ns.map PD.int) (ns.map V.int)
 | []=>by show Reps K H [] [];rw[Reps]
 | n::ns=>by show Reps K H (.int n::ns.map PD.int) (.int n::ns.map V.int);rw[Reps];exact⟨_,_,rfl,by rw[Hi],Ry ns⟩
theorem Sz:∀ns:List Int,I_ (ns.map PD.int)=0
 | []=>by show I_ []=0;rw[I_]
 | n::ns=>by
  show I_ (.int n::ns.map PD.int)=0;rw[I_,Sz ns,ID]
  all_goals simp
theorem PX{p:Addr}{ns:List Int}{Q:VK}(h:SqL K H a (ns.map V.int))(hp:SqL K H p [])(q:Q (.bl (!ns.isEmpty)) H):Mx K (.ref a) (.ref p) H Q:=by
 refine⟨.lst (ns.map PD.int),.lst [],by rw[Hi];exact⟨a,_,rfl,h,Ry ns⟩,by rw[Hi];exact⟨p,_,rfl,hp,by rw[Reps]⟩,by rw[ID,Sz];decide,?_⟩;cases ns with
 | nil=>rw[HE,show J7 (([]:List Int).map PD.int) []=true from Nq []];exact q
 | cons n ns=>rw[HE,KE (by simp)];exact q
theorem PH{α:Type}{x:α}{r:List α}:Jh (x::r) 0=some x:=Kd (j:=0) rfl
theorem SZ{α:Type}{x:α}{r:List α}:K5 (x::r).length 0=some 0:=by unfold K5;rw[if_pos (by decide),if_pos (by rw[AN];omega)];rfl
theorem TW{ls:List Int}{i:Int}(h0:0≤i)(h1:i<(ls.length:Int)):∃v,Jh (ls.map V.int) i=some (.int v)∧v∈ls:=by
 obtain⟨k,rfl⟩:=Int.eq_ofNat_of_zero_le h0;have hk:k<ls.length:=by omega
 exact⟨ls[k],Kd (by rw[Af,Aq hk];rfl),Dv _⟩
theorem K1:(0:Nat)≤Av:=Bo _
theorem Iw{α:Type}{l:List α}{x:α}(h:l[i]?=some x):l.take (i+1)=l.take i++[x]:=by rw[List.take_succ,h];rfl
theorem Rf{p:Addr}{Q:VK}{js:Im}{cap:St}{tc:TT}{te:TE}(ns:List Int)(f:Int→Int)(c:Int→Bool)(hn:ns.length≤900)(e:SqL K H a (ns.map V.int))(hp:H p=none)(hσ:IJ js σ=none::cap)
 (ht:∀n H'(R:Bool→Hp→Prop),Same H H'→R (c n) H'→tc (some (.int n)::cap) H' R) (he:∀n H'(R:VK),Same H H'→R (.int (f n)) H'→te (some (.int n)::cap) H' R)
 (hq:∀H',Same H H'→H' p=some (.lst (((ns.filter c).map f).map V.int))→Q (.ref p) H'):JF (JJ K a) p js (J6 0) tc te σ H Q:=by
 have s0:=Hx hp (.lst []);refine Ks (xs:=ns.map V.int) (λi σ' ys H'=>(∃v,σ'=v::cap)∧Same H H'∧H' p=some (.lst ys)∧ys=((((ns.take i).filter c).map f).map V.int)) ⟨⟨_,hσ⟩,s0,Hl,rfl⟩ ?_ ?_ ?_
 · rintro i σ' ys H' hi ⟨_,s,h1,h2⟩;refine⟨s.seq e,h1,?_⟩;rw[h2];simp only[Ab];have:=C2 c (ns.take i);rw[A5] at this;exact IB (by omega)
 · rintro i x σ' ys H' N hx ⟨⟨v,rfl⟩,s,h1,h2⟩ hN;rw[Af] at hx;cases hn':ns[i]? with
   | none=>rw[hn'] at hx;cases hx
   | some n=>
    rw[hn'] at hx;have hx:V.int n=x:=AB hx;subst hx;refine ht n H' _ s ?_;have e1:=Iw hn';cases hc:c n with
    | true=>
     refine Hr (he n H' _ s ⟨h1,hN _ _ _ ⟨⟨_,rfl⟩,?_,Hl,?_⟩⟩)
     · intro b o q;have:b≠p:=λz=>by rw[z,hp] at q;cases q
       rw[HC this];exact s b o q
     · rw[h2,e1,C3,Dj,if_pos hc];simp
    | false=> refine Hs (hN _ _ _ ⟨⟨_,rfl⟩,s,h1,?_⟩);rw[h2,e1,C3,Dj,if_neg (by rw[hc];exact Ax)];simp
 · rintro σ' ys H' ⟨_,s,h1,h2⟩;refine hq H' s ?_;rw[h1,h2,Ab,BL]
theorem Re{p:Addr}{Q:VK}{js:Im}{cap:St}{tc:TT}{te:TE}(os:List (Option Int))(c:Option Int→Bool)(hn:os.length≤900)(e:SqT K H a (os.map eV))(hp:H p=none)(hσ:IJ js σ=none::cap)
 (mono:∀{H'},Same H H'→SqT K H' a (os.map eV))
 (ht:∀o H'(R:Bool→Hp→Prop),Same H H'→R (c o) H'→tc (some (eV o)::cap) H' R) (he:∀o H'(R:VK),Same H H'→R (eV o) H'→te (some (eV o)::cap) H' R)
 (hq:∀H',Same H H'→H' p=some (.lst ((os.filter c).map eV))→Q (.ref p) H'):JF (Ko K a) p js (J6 0) tc te σ H Q:=by
 have s0:=Hx hp (.lst []);refine NW (xs:=os.map eV) (λi σ' ys H'=>(∃v,σ'=v::cap)∧Same H H'∧H' p=some (.lst ys)∧ys=((os.take i).filter c).map eV) ⟨⟨_,hσ⟩,s0,Hl,rfl⟩ ?_ ?_ ?_
 · rintro i σ' ys H' hi ⟨_,s,h1,h2⟩;refine⟨mono s,h1,?_⟩;rw[h2];simp only[Ab];have:=C2 c (os.take i);rw[A5] at this;exact IB (by omega)
 · rintro i x σ' ys H' N hx ⟨⟨v,rfl⟩,s,h1,h2⟩ hN;rw[Af] at hx;cases hn':os[i]? with
   | none=>rw[hn'] at hx;cases hx
   | some n=>
    rw[hn'] at hx;have hx:eV n=x:=AB hx;subst hx;refine ht n H' _ s ?_;have e1:=Iw hn';cases hc:c n with
    | true=>
     refine Hr (he n H' _ s ⟨h1,hN _ _ _ ⟨⟨_,rfl⟩,?_,Hl,?_⟩⟩)
     · intro b o q;have:b≠p:=λz=>by rw[z,hp] at q;cases q
       rw[HC this];exact s b o q
     · rw[h2,e1,C3,Dj,if_pos hc];simp
    | false=> refine Hs (hN _ _ _ ⟨⟨_,rfl⟩,s,h1,?_⟩);rw[h2,e1,C3,Dj,if_neg (by rw[hc];exact Ax)];simp
 · rintro σ' ys H' ⟨_,s,h1,h2⟩;refine hq H' s ?_;rw[h1,h2,Ab,BL]
theorem Same.seqT{H':Hp}(e:Same H H')(h:SqT K H a xs):SqT K H' a xs:=by
 rcases h with(h | ⟨o,h⟩) | h
 · exact .inl (.inl (e _ _ h))
 · exact .inl (.inr ⟨o,e _ _ h⟩)
 · exact .inr h
def MM(xs:List V):It:=⟨λi _=>i<xs.length,λi H x H'=>H'=H∧xs[i]?=some x,λi _=>xs.length≤i⟩
theorem Ys{tg:Expr}(it:Addr)(x:Str)(t:Tok):Turn P w K tg (MM (x.cps.toList.map λc=>V.str ⟨#[c]⟩)) [it] it (λi h=>h.IsStrIter it "str_ascii_iterator" x t i) where
 mem:=by simp
 obj:=λi h st b hb=>by
  have e:b=it:=by simpa using hb
  subst e;obtain⟨o,e,c,d⟩:=st;exact⟨o,e,λv z=>by rw[d] at z;cases z⟩
 keep:=λi h h' st k=>let⟨o,ho,r⟩:=st;⟨o,k it (by simp) o ho,r⟩
 item:=by
  intro X hP hw hK hc i pins s σ H E I hf st hg;subst hP hw hK;have hg:i<(x.cps.toList.map λc=>V.str ⟨#[c]⟩).length:=hg;rw[Ab,AJ] at hg;obtain⟨f0,f1,f2,f3,f4,f5⟩:=hf it (by simp);refine wpAny_pyNext_ascii_item st (c:=x.cps[i]) (by simp[hg]) λh' st' sb=>?_;have I1:Inv X pins σ H {s with heap:=h',toks:=s.toks+1}:=I.turned (λb o hb e=>(sb.2 b hb).trans e) f0 f1 f3 f4 f5
  obtain⟨o,e,c,d⟩:=id st';exact⟨_,rfl,LO (s:={s with heap:=h',toks:=s.toks+1}) e c d (by decide) ⟨.str ⟨#[x.cps[i]]⟩,H,I1,⟨_,rfl⟩,⟨rfl,by rw[Af,C1,Cj hg];rfl⟩,st',λb hb=>(hf b hb).1⟩⟩
 done:=by intro X hP hw hK hc i pins s σ H E I hf st hg;subst hP hw hK;have hg:(x.cps.toList.map λc=>V.str ⟨#[c]⟩).length≤i:=hg;rw[Ab,AJ] at hg;obtain⟨f0,f1,f2,f3,f4,f5⟩:=hf it (by simp);exact wpAny_pyNext_ascii_end (I.ok.hd hc) st (by simpa using hg) λh' eb=>⟨rfl,I.turned (t':=s.toks) (λb o hb e=>eb b o hb e) f0 f1 f3 f4 f5⟩
 self:=λ_ _ _ _ _ st h=>wpAny_pyIter_striter_ascii st h
theorem XO{tg:Expr}(it:Addr)(x:Str)(t:Tok):Turn P w K tg (MM (x.cps.toList.map λc=>V.str ⟨#[c]⟩)) [it] it (λi h=>h.IsStrIter it "str_iterator" x t i) where
 mem:=by simp
 obj:=λi h st b hb=>by
  have e:b=it:=by simpa using hb
  subst e;obtain⟨o,e,c,d⟩:=st;exact⟨o,e,λv z=>by rw[d] at z;cases z⟩
 keep:=λi h h' st k=>let⟨o,ho,r⟩:=st;⟨o,k it (by simp) o ho,r⟩
 item:=by
  intro X hP hw hK hc i pins s σ H E I hf st hg;subst hP hw hK;have hg:i<(x.cps.toList.map λc=>V.str ⟨#[c]⟩).length:=hg;rw[Ab,AJ] at hg;obtain⟨f0,f1,f2,f3,f4,f5⟩:=hf it (by simp);refine wpAny_pyNext_wide_item st (c:=x.cps[i]) (by simp[hg]) λh' st' sb=>?_;have I1:Inv X pins σ H {s with heap:=h',toks:=s.toks+1}:=I.turned (λb o hb e=>(sb.2 b hb).trans e) f0 f1 f3 f4 f5
  obtain⟨o,e,c,d⟩:=id st';exact⟨_,rfl,LO (s:={s with heap:=h',toks:=s.toks+1}) e c d (by decide) ⟨.str ⟨#[x.cps[i]]⟩,H,I1,⟨_,rfl⟩,⟨rfl,by rw[Af,C1,Cj hg];rfl⟩,st',λb hb=>(hf b hb).1⟩⟩
 done:=by intro X hP hw hK hc i pins s σ H E I hf st hg;subst hP hw hK;have hg:(x.cps.toList.map λc=>V.str ⟨#[c]⟩).length≤i:=hg;rw[Ab,AJ] at hg;obtain⟨f0,f1,f2,f3,f4,f5⟩:=hf it (by simp);exact wpAny_pyNext_wide_end (I.ok.hd hc) st (by simpa using hg) λh' eb=>⟨rfl,I.turned (t':=s.toks) (λb o hb e=>eb b o hb e) f0 f1 f3 f4 f5⟩
 self:=λ_ _ _ _ _ st h=>wpAny_pyIter_striter_wide st h
section
variable{tg:Expr}
def signs(x:Str):List V:=x.cps.toList.map λc=>V.str ⟨#[c]⟩
def P0(tl:TE):TI:=λσ H R=>tl σ H λv H1=>∃x,v= .str x∧R (MM (signs x)) H1
theorem T0{l:Expr}{tl:TE}(hl:PE X l tl):PI X tg l (P0 tl):=by
 intro pins s σ H R I h;refine Hj (hl pins s σ H _ I h) λv s1 ⟨y,H1,I1,r1,q1⟩=>?_;obtain⟨x,e,q⟩:=q1;subst e;obtain⟨t,rfl⟩:=r1;cases ha:x.cps.all (· <128)
 · refine wpAny_pyIter_wide ha ?_;refine⟨s1.heap.objs.size,[s1.heap.objs.size],_,_,H1,rfl,I1.kept (t':=s1.toks) λb o e=>Ad _ e,XO _ x t,⟨_,Ao _ rfl,rfl,rfl⟩,λb hb=>?_,q⟩;have e:b=s1.heap.objs.size:=by simpa using hb
   subst e;exact I1.fpOk (Ag _) (I1.hok.fresh (Ag _))
 · refine wpAny_pyIter_ascii ha ?_;refine⟨s1.heap.objs.size,[s1.heap.objs.size],_,_,H1,rfl,I1.kept (t':=s1.toks) λb o e=>Ad _ e,Ys _ x t,⟨_,Ao _ rfl,rfl,rfl⟩,λb hb=>?_,q⟩;have e:b=s1.heap.objs.size:=by simpa using hb
   subst e;exact I1.fpOk (Ag _) (I1.hok.fresh (Ag _))
theorem RX:Ie X (BD .LtE) (λx y H Q=>∃i j,x= .str i∧y= .str j∧Q (.bl (!decide (j.cps.toList<i.cps.toList))) H):=by intro pins s σ H x y v u Q I rx ry h;obtain⟨i,j,rfl,rfl,q⟩:=h;obtain⟨t,rfl⟩:=rx;obtain⟨t',rfl⟩:=ry;exact PySem.P.le_str (Ik I q rfl)
theorem Lc(hc:X.calm=true):J5 X (.builtin "all") (λxs H Q=>∃(a:Addr)(bs:List Bool),xs=[.ref a]∧SqL X.K H a (bs.map V.bl)∧Q (.bl (bs.all id)) H):=by
 intro pins s σ H xs us Q I r h;obtain⟨a,bs,rfl,hq,q⟩:=h;obtain⟨u,rfl,ru⟩:=Jy r;cases ru;obtain⟨its,rv,p,hzz⟩:=I.list hq;have ll:=rv.length;rw[Ab] at ll;refine call_all_walk (Dr p.isList ?_);obtain⟨o,ho,_⟩:=id p.isList;have lt:=Am ho;refine⟨s.heap.objs.size,_,_,_,_,_,λi=>bs.getD i false,rfl,Walks.list (A:=X.A.in1) (I.ok.hd hc) s.heap.objs.size a (Ar lt) its.toArray,⟨⟨_,Ao _ rfl,rfl,rfl⟩,p.isList.at λo' e=>Ad _ e⟩,?_,λg t' k=>?_⟩
 · intro i v s' Q' E' hv q';have hi:its[i]?=some v:=by simpa using hv
   have hl:i<its.length:=(An.mp hi).1;have e:(bs.map V.bl)[i]?=some (.bl (bs.getD i false)):=by rw[Af,Aq (by omega),Bi,Aq (by omega)];rfl
   obtain⟨u,h1,h2⟩:=Vals.get rv e;rw[hi] at h1;cases h1;cases h2;exact Bs q'
 · refine⟨.bl (bs.all id),H,I.kept (λb o' e=>k b o' ?_ (Ad _ e)),?_,q⟩
   · intro z;exact absurd (Ae.mp z) (Ar (Am e))
   · show Value.bool _=Value.bool _;congr 1;rw[Aw,←ll];clear rv ll hq q p ho lt hzz
     induction bs with
     | nil=>rfl
     | cons b r ih=> rw[AN,F2,Da,Ek,Da,←ih];rfl
end
theorem Tp{xs:List V}{p:Addr}{g:TG}{tc:TT}{te:TE}{Q:VK}{js:Im}(Pv:Nat→St→List V→Hp→Prop)(h0:Pv 0 (IJ js σ) [] (Hh H p (.lst [])))
 (hl:∀i σ ys H,i≤xs.length→Pv i σ ys H→H p=some (.lst ys)∧ys.length<Av)
 (hs:∀(i:Nat)x σ ys H(N:St→List V→Hp→Prop),xs[i]?=some x→Pv i σ ys H→(∀σ' ys' H',Pv (i+1) σ' ys' H'→N σ' ys' H')→KU p g tc te ys x σ H N)
 (hd:∀σ ys H,Pv xs.length σ ys H→Q (.ref p) H):JF (MM xs) p js g tc te σ H Q:=
 L6 (n:=xs.length) (J:=MM xs) (js:=js) (σ:=σ) (H:=H) (p:=p) (Q:=Q) (g:=g) (tc:=tc) (te:=te) Pv h0 hl
  (λi σ ys H hi pv=>hi) (λσ ys H pv=>Ag _)
  (λi x σ ys H H' N hi y pv hN=>by obtain⟨e,y⟩:=y;subst e;exact hs i x σ ys _ N y pv hN) hd
section
variable{R:Result→Shared→Prop}
theorem Xz{kx vx target iter:Expr}{ifs:List Expr}{scope:Scope}{pos:Pos}{it:Value}{D:Addr}{env:Env}(I:Nat→Shared→Prop)
 (turn:∀n s,I n s→wpAny (model prog w) A (pyNext it) (λr s₁=>match r with
  | none=>R (.ok .next) s₁
  | some v=>wpAny (model prog w) A (Bz target it v) (λ_ s₁'=>wpAny (model prog w) A (assign target env v) (λ_ s₂=>
   wpAny (model prog w) A (forIn ifs true λc r=>if r=true then do let ok ←isTrue c env (eval c env);pure (ForInStep.yield ok) else pure (ForInStep.yield r)) (λok s₃=>
    if ok=true then wpAny (model prog w) A (eval kx env) (λkv s₄=>wpAny (model prog w) A (eval vx env) (λvv s₅=> wpAny (model prog w) A (dictSet D kv vv) (λ_ s₆=>∃m,m<n∧I m s₆) (λ_ _=>False) s₅) (λ_ _=>False) s₄) (λ_ _=>False) s₃
    else ∃m,m<n∧I m s₃) (λ_ _=>False) s₂) (λ_ _=>False) s₁') (λ_ _=>False) s₁) (λ_ _=>False) s)
 (n:Nat) (h:I n s):
 codeAny (model prog w) A (.compLoop (.DictComp kx vx [⟨target,iter,ifs,0⟩] scope pos) 0 it (.ref D) env) R s:=by
 refine DH rfl I (λn s hI=>?_) n h;show wpAny _ A ((compTurn (.DictComp kx vx [⟨target,iter,ifs,0⟩] scope pos) 0 it (.ref D) env).onRaise (λx=>do noteFrame x env;theTreesLotGoes x)) _ _ s
 refine DR ?_;rw[compTurn_dict];refine Aa (Bm (Aa (AA (turn n s hI) (λr s₁ h₁=>?_) λ_ _ z=>z.elim)));cases r with
 | none=>exact Ac h₁
 | some v=>
  refine Aa (AA h₁ (λ_ s₁' h₁'=>?_) λ_ _ z=>z.elim);refine Aa (AA h₁' (λ_ s₂ h₂=>Aa (AA h₂ (λok s₃ h₃=>?_) λ_ _ z=>z.elim)) λ_ _ z=>z.elim);cases ok with
  | false=>exact Ac ⟨rfl,h₃⟩
  | true=> exact Aa (Aa (AA h₃ (λkv s₄ h₄=>Aa (Bh (AA h₄ (λvv s₅ h₅=>Aa (Bm (Bh (AA h₅ (λ_ s₆ h₆=>Ac ⟨rfl,h₆⟩) λ_ _ z=>z.elim)))) λ_ _ z=>z.elim))) λ_ _ z=>z.elim))
end
def NT(J:It)(p:Addr)(js:Im)(g:TG)(tc:TT)(tk tv:TE)(σ:St)(H:Hp)(Q:VK):Prop:=
 ∃W:Nat→Nat→St→List (HD×V)→Hp→Prop,(∃m,W 0 m (IJ js σ) [] (Hh H p (.dK [])))∧∀i m σ' kvs H,W i m σ' kvs H→H p=some (.dK kvs)∧
  ((J.stop i H∧Q (.ref p) H)∨(J.go i H∧kvs.length<Av∧∀x H',J.yld i H x H'→g x σ' H' λσ2 H2=>tc σ2 H2 λb H3=>
    if b=true then tk σ2 H3 λk H4=>tv σ2 H4 λy H5=>∃ky,k=kV ky∧H5 p=some (.dK kvs)∧∃m',m'<m∧W (i+1) m' σ2 (HU kvs ky y) (Hh H5 p (.dK (HU kvs ky y)))
    else ∃m',m'<m∧W (i+1) m' σ2 kvs H3))
def YF(wi:TI)(js:Im)(g:TG)(tc:TT)(tk tv:TE):TE:=λσ H Q=>wi σ H λJ H1=>∀p,H1 p=none→NT J p js g tc tk tv σ H1 Q
section
variable{tg iter kx vx:Expr}{ifs:List Expr}{wi:TI}{js:Im}{g:TG}{tc:TT}{tk tv:TE}{N':List Str}
theorem Vt{pins:List (Addr×Obj)}{σ:St}{H:Hp}{s:Shared}{E:Value→Shared→Prop}{Q:VK}{J:It}{it:Addr}{fp:List Addr}{tn:Nat→Heap→Prop}{cl:List (Str×Addr)}
 (hc:X.calm=true) (ok:CapOk X N' js scope)
 (h2:∀x c,cl.lookup x=some c→X.env.cells.lookup x=some c) (h3:∀p∈scope.names,p.2= .free→(cl.lookup p.1).isSome=true)
 (hg:∀cl C s₀ H₀ ex,PG (HM X N' scope cl C s₀ H₀ ex) tg g) (ht:∀cl C s₀ H₀ ex,HP (HM X N' scope cl C s₀ H₀ ex) ifs tc) (he:∀cl C s₀ H₀ ex,PE (HM X N' scope cl C s₀ H₀ ex) kx tk) (hv:∀cl C s₀ H₀ ex,PE (HM X N' scope cl C s₀ H₀ ex) vx tv)
 (I:Inv X pins σ H s) (T:Turn X.prog X.w X.K tg J fp it tn) (st:tn 0 s.heap) (hf:∀b∈fp,Hm X pins H b)
 (hw:∀p,H p=none→NT J p js g tc tk tv σ H Q):
 wpAny (model X.prog X.w) X.A newDict (λacc s₃=>wpAny (model X.prog X.w) X.A (newFunctionEnv scope X.env.globals cl [] X.env.qual none .none (some X.env)) (λcenv s₄=>
  codeAny (model X.prog X.w) X.A (.compStart (.DictComp kx vx [⟨tg,iter,ifs,0⟩] scope pos) 0 (.ref it) acc {cenv with scope:=relabel scope X.env})
   (λr s'=>r= .ok .next∧(∃m,s'.heap.Ns cenv.locals m)∧∃v H',RelV v acc∧Inv X pins σ H' s'∧Hm X pins H' cenv.locals∧Q v H') s₄) E s₃) E s:=by
 have objs:=T.obj _ _ st;refine AR ?_;obtain⟨W,⟨m0,w0⟩,turn⟩:=hw s.heap.objs.size (I.hok.fresh (Ag _));generalize hp:s.heap.objs.size=p at*;have kp:∀b u,s.heap.get? b=some u→(s.heap.push {cls:= .type "dict",data:= .dict #[]}).get? b=some u:=λb u e=>Ad _ e;have I3:Inv X pins σ (Hh H p (.dK [])) {s with heap:=s.heap.push {cls:= .type "dict",data:= .dict #[]}}:=by subst hp;exact I.laid (t':=s.toks) kp (Ag _) (US s.heap I.big)
 have fne:∀b∈fp,b≠p:=λb hb=>by obtain⟨o,e,_⟩:=objs b hb;have:=Am e;rw[←hp];exact Ar this
 have hf3:∀b∈fp,Hm X pins (Hh H p (.dK [])) b:=λb hb=>⟨by rw[HC (fne b hb)];exact(hf b hb).1,(hf b hb).2⟩;have st3:tn 0 (s.heap.push {cls:= .type "dict",data:= .dict #[]}):=T.keep _ _ _ st λb _ o e=>kp b o e;have lt3:∀b∈fp,b<(s.heap.push {cls:= .type "dict",data:= .dict #[]}).objs.size:=λb hb=>by obtain⟨o,e,_⟩:=objs b hb;exact Am (kp b o e)
 generalize hs3:({s with heap:=s.heap.push {cls:= .type "dict",data:= .dict #[]}}:Shared)=s3 at*
 have eh:s.heap.push {cls:= .type "dict",data:= .dict #[]}=s3.heap:=by rw[←hs3]
 rw[eh] at st3 lt3;refine Nz ok.cells λcl h₁ hns₁ k4 oc=>?_;have I4:=Nt (cl:=cl) (h₁:=h₁) (t':=s3.toks+([]:List (Str×Value)).length) ok I3 h2 h3 hf3 lt3 k4 hns₁ oc;have st4:tn 0 h₁:=T.keep _ _ _ st3 λb _ o e=>k4 b o e;generalize hX:HM X N' scope cl s3.heap.objs.size s3 (Hh H p (.dK [])) fp=X' at I4;have hg':PG X' tg g:=by rw[←hX];exact hg _ _ _ _ _
 have ht':HP X' ifs tc:=by rw[←hX];exact ht _ _ _ _ _
 have he':PE X' kx tk:=by rw[←hX];exact he _ _ _ _ _
 have hv':PE X' vx tv:=by rw[←hX];exact hv _ _ _ _ _
 have eP:X'.prog=X.prog:=by rw[←hX];rfl
 have ew:X'.w=X.w:=by rw[←hX];rfl
 have eK:X'.K=X.K:=by rw[←hX];rfl
 have ec:X'.calm=true:=by rw[←hX];exact hc
 have eA:X'.A=X.A:=by rw[←hX];rfl
 have ex:X'.xe=λ_ _=>False:=by rw[←hX];rfl
 have eE:X'.env=compEnvC scope cl s3.heap.objs.size X.env:=by rw[←hX];rfl
 have eEx:X'.ex=fp:=by rw[←hX];rfl
 have eN:X'.pn=[]:=by rw[←hX];rfl
 have stat:∀{H':Hp},(∀b∈fp,H' b=none)→∀b∈fp,Hm X' [] H' b:=λ{H'}hn b hb=>by have okc:=I4.ok;refine⟨hn b hb,(okc.exf b (by rw[eEx];exact hb)).1,okc.exfs b (by rw[eEx];exact hb),.inl (by rw[eEx];exact hb),(okc.exf b (by rw[eEx];exact hb)).2,λq hq=>?_⟩;rw[eN] at hq;cases hq
 have loop:∀s₄:Shared,s₄={s3 with heap:=h₁,toks:=s3.toks+([]:List (Str×Value)).length}→
  codeAny (model X.prog X.w) X.A (.compLoop (.DictComp kx vx [⟨tg,iter,ifs,0⟩] scope pos) 0 (.ref it) (.ref p) (compEnvC scope cl s3.heap.objs.size X.env))
   (λr s'=>r= .ok .next∧(∃m,s'.heap.Ns s3.heap.objs.size m)∧∃v H',RelV v (.ref p)∧Inv X pins σ H' s'∧Hm X pins H' s3.heap.objs.size∧Q v H') s₄:=by
  rintro s₄ rfl;refine Xz (λn s'=>∃i σ' ys H',Inv X' [] σ' H' s'∧tn i s'.heap∧(∀b∈fp,H' b=none)∧W i n σ' ys H') ?_ m0 ⟨0,_,[],_,I4,st4,λb hb=>(hf3 b hb).1,w0⟩;rintro n s5 ⟨i,σ5,ys,H5,I5,st5,fr5,w5⟩;obtain⟨hp5,tu⟩:=turn i n σ5 ys H5 w5;rcases tu with⟨stop,qn⟩ | ⟨go,hz,step⟩
  · have D:=T.done X' eP ew eK ec i [] s5 σ5 H5 (λ_ _=>False) I5 (stat fr5) st5 stop;rw[eA] at D;refine Hj D λr s6 ⟨hr,I6⟩=>?_;subst hr;refine⟨rfl,?_,.ref p,H5,rfl,?_,?_,qn⟩
    · obtain⟨m,hm,_⟩:=I6.loc;rw[eE] at hm;exact⟨m,hm⟩
    · have b6:=I6.base;have ho:=I6.os;have hk:=I6.hok;have hb:=I6.bare;subst hX;exact I3.call' (ch:=fp) ho b6 hk hb λb hb'=>⟨(hf b hb').2.2.2.1,(hf b hb').2.1,(hf b hb').2.2.2.2.1,(hf b hb').2.2.2.2.2⟩
    · have fr:=I6.free;rw[eE] at fr;exact I3.fpOk (Ag _) fr
  · have D:=T.item X' eP ew eK ec i [] s5 σ5 H5 (λ_ _=>False) I5 (stat fr5) st5 go;rw[eA] at D;refine Hj D λr s6 ⟨u,hr,h6⟩=>?_;subst hr;refine Hj h6 λ_ s7 ⟨x,H7,I7,r7,y7,st7,fr7⟩=>?_;have I7':=I7.pinned (stat fr7) (T.obj _ _ st7);have G:=hg' _ s7 σ5 H7 x u _ I7' r7 (step x H7 y7);rw[eP,ew,eA,ex,eE] at G;refine Hj G λ_ s8 ⟨σ8,H8,I8,q8⟩=>?_;have Tt:=ht' _ s8 σ8 H8 _ I8 q8;rw[eP,ew,eA,ex,eE] at Tt;refine Hj Tt λb s9 ⟨H9,I9,q9⟩=>?_;have again:∀{s':Shared}{ys':List (HD×V)}{H':Hp},Inv X' ([]++IN fp s7.heap) σ8 H' s'→(∃m',m'<n∧W (i+1) m' σ8 ys' H')→
     ∃m,m<n∧∃i σ' ys H',Inv X' [] σ' H' s'∧tn i s'.heap∧(∀b∈fp,H' b=none)∧W i m σ' ys H':=λ{s' ys' H'}I' ⟨m',hm,w'⟩=>by
     refine⟨m',hm,i+1,σ8,ys',H',I'.unpinned,T.keep _ _ _ st7 λb hb o e=>(I'.pin (b,o) (Aj _ (Aj _ (Jt hb e)))).1,λb hb=>?_,w'⟩;obtain⟨o,e,d⟩:=T.obj _ _ st7 b hb;exact(I'.pin (b,o) (Aj _ (Aj _ (Jt hb e)))).2.1
    cases b with
    | false=>exact again I9 q9
    | true=>
     have Ee:=he' _ s9 σ8 H9 _ I9 q9;rw[eP,ew,eA,ex,eE] at Ee;show wpAny _ _ _ _ _ _;refine Hj Ee λkv s10 ⟨kk,H10,I10,r10,q10⟩=>?_;have Ev:=hv' _ s10 σ8 H10 _ I10 q10;rw[eP,ew,eA,ex,eE] at Ev;refine Hj Ev λvv s11 ⟨y,H11,I11,r11,ky,ek,hp11,q11⟩=>?_;subst ek;obtain⟨z0,hd0,vs0,rel0,dd0⟩:=PQ I11.hok hp11;have hz0:vs0.length≤Av:=by rw[←rel0.length];exact z0
     have hl0:(HU ys ky y).length≤Av:=by have:=Nl ys ky y;omega
     rw[eP,ew] at dd0;refine wpAny_dictSet_pairs (hsz:=hz0) (LQ r10) dd0 λh' dd' hs'=>?_;have he0:∃q,h'.get? p=some q:=let⟨q,_,_,hq,_⟩:=dd';⟨q,hq⟩;have I12:=N_ (t':=s11.toks+1) I11 (by rw[hp11];exact True.intro) hs' he0 (Q6 hl0 hd0 (rel0.put ky r11) (by rw[eP,ew];exact dd'));exact again I12 q11
 exact codeAny_compStart_dict (loop _ rfl) (T.self _ 0 _ _ _ st4 (loop _ rfl))
theorem TH(hc:X.calm=true)(ok:CapOk X N' js scope)(hi:PI X tg iter wi)
 (hg:∀cl C s₀ H₀ ex,PG (HM X N' scope cl C s₀ H₀ ex) tg g) (ht:∀cl C s₀ H₀ ex,HP (HM X N' scope cl C s₀ H₀ ex) ifs tc) (he:∀cl C s₀ H₀ ex,PE (HM X N' scope cl C s₀ H₀ ex) kx tk) (hv:∀cl C s₀ H₀ ex,PE (HM X N' scope cl C s₀ H₀ ex) vx tv)
 (hs:∀x,Bb iter X.env x=pure x:=by intro _;rfl):PE X (.DictComp kx vx [⟨tg,iter,ifs,0⟩] scope pos) (YF wi js g tc tk tv):=by
 intro pins s σ H Q I h;obtain⟨cl,c1,c2,c3⟩:=Ma (scope:=scope) I.ok.has ok.free;show wpAny _ X.A (comprehension (.DictComp kx vx [⟨tg,iter,ifs,0⟩] scope pos) scope X.env _ newDict false (eval iter X.env)) _ _ s;refine CA (use:=none) rfl hs c1 ok.kind ok.names (Hj (hi pins s σ H _ I h) λv s1 h1=>Hj h1 λitv s2 h2=>?_);obtain⟨it,fp,tn,J,H2,e,I2,T,st2,f2,hw⟩:=h2;subst e;refine AA (Vt (iter:=iter) (pos:=pos) hc ok c2 c3 hg ht he hv I2 T st2 f2 hw) (λacc s3 h3=>AA h3 (λcenv s4 h4=>?_) λ_ _ z=>z) λ_ _ z=>z;refine Cm h4 λr s5 h5=>?_;obtain⟨rfl,⟨m,hm⟩,v,H5,rv,I5,f5,q5⟩:=h5;refine⟨m,hm,λh' sb=>?_⟩;obtain⟨f0,f1,_,f3,f4,f6⟩:=f5;exact⟨v,H5,I5.turned (t':=s5.toks) (λb o hb e=>(sb.2 b hb).trans e) f0 f1 f3 f4 f6,rv,q5⟩
end
theorem Od{ti tp:Addr}{k:Nat}{vs:Array Value}{v:Value}{Q:Value→Shared→Prop}(hi:s.heap.IsTupleIter ti tp k)(ht:s.heap.IsTuple tp vs)(hv:vs[k]?=some v)
 (fin:∀g,g.IsTupleIter ti tp (k+1)→Bp ti s.heap g→Q v {s with heap:=g}):wpAny (model prog w) A (AV (.ref ti)) Q E s:=by
 obtain⟨oi,e1,c1,d1⟩:=id hi;obtain⟨ot,e2,_,nt,d2⟩:=ht;unfold AV;refine Aa (AW (name:=Cc "__next__") hi.typeIs Bj (AY Bj hi.typeIs Cz ?_ (Cv _)));show wpAny _ _ (field (.ref ti) 0>>=_) _ _ s;refine Aa (AS e1 d1 (x:= .ref tp) rfl ?_);show wpAny _ _ (if(Value.ref tp==Value.none)=true then _ else _) _ _ s
 rw[if_neg (show ¬((Value.ref tp==Value.none)=true) from Ax)];show wpAny _ _ (field (.ref ti) 1>>=_) _ _ s;refine Aa (AS e1 d1 (x:= .int k 0) rfl ?_);show wpAny _ _ (seqItems? (.ref tp)>>=_) _ _ s;refine Aa (A_ e2 d2 ?_);simp only[Bc,hv];refine Aa (BG e1 d1 (by simp) (Ac ⟨v,rfl,Ac (fin _ ?_ (AZ ..))⟩));exact⟨_,Ba _ e1 (FA (DJ d1 _)),(Obj.cls_mapFields ..).trans c1,by rw[DJ d1];simp[rawInt]⟩
theorem Ql{ti tp:Addr}{k:Nat}{vs:Array Value}{Q:Value→Shared→Prop}(hh:A.handled=none)(hi:s.heap.IsTupleIter ti tp k)(ht:s.heap.IsTuple tp vs)(hv:vs[k]?=none)
 (fin:∀g e,DS ti s.heap g→(∃o,g.get? e=some o∧o.cls= .type "StopIteration")→E (.ref e) {s with heap:=g}):wpAny (model prog w) A (AV (.ref ti)) Q E s:=by
 obtain⟨oi,e1,c1,d1⟩:=id hi;obtain⟨ot,e2,_,nt,d2⟩:=ht;unfold AV;refine Aa (AW (name:=Cc "__next__") hi.typeIs Bj (AY Bj hi.typeIs Cz ?_ (Cv _)));show wpAny _ _ (field (.ref ti) 0>>=_) _ _ s;refine Aa (AS e1 d1 (x:= .ref tp) rfl ?_);show wpAny _ _ (if(Value.ref tp==Value.none)=true then _ else _) _ _ s
 rw[if_neg (show ¬((Value.ref tp==Value.none)=true) from Ax)];show wpAny _ _ (field (.ref ti) 1>>=_) _ _ s;refine Aa (AS e1 d1 (x:= .int k 0) rfl ?_);show wpAny _ _ (seqItems? (.ref tp)>>=_) _ _ s;refine Aa (A_ e2 d2 ?_);simp only[Bc,hv];refine Aa (BN (Aa (BG e1 d1 (by simp) ?_)));show wpAny _ _ (newExc (.type "StopIteration") []>>=_) _ _ _;refine Aa ?_;simp only[newExc,newTuple];refine Aa (AR ?_ (by size_fits));refine Aa (m:=firstArgMember _ _) (DQ (a:=Value.none) (by first | rfl | (simp only[firstArgMember];rfl)) ?_)
 refine AR ?_ (by size_fits);simp only[raiseNew];refine Aa (wpAny_handled ?_)
 first | rw[show A.in1.handled=none from hh] | rw[hh]
 refine Aa (Ac (wpAny_throw ?_));exact fin _ _ (((AZ ..).extBut.push _).push _) ⟨_,Ao _ rfl,rfl⟩
structure ZA(z a b i j:Addr):Prop where
 az:a≠z
 bz:b≠z
 iz:i≠z
 jz:j≠z
 ab:a≠b
 ai:a≠i
 aj:a≠j
 bi:b≠i
 bj:b≠j
 ij:i≠j
theorem Kv{h':Heap}{t c:Addr}{vs:Array Value}(x:h.IsTuple t vs)(hs:Bp c h h')(n:t≠c):h'.IsTuple t vs:=x.extBut hs.extBut n
theorem Vw{z i j t1 t2:Addr}{k1 k2:Nat}{xs ys:Array Value}{x y p q:Value}{Q:Value→Shared→Prop}(D:ZA z a b i j)(n1:t1≠z∧t1≠b∧t1≠i∧t1≠j)(n2:t2≠z∧t2≠b∧t2≠i∧t2≠j)
 (hz:IsZip s.heap z a b .none) (ha:IsPair s.heap a (.ref i) (.ref j)) (hb:IsPair s.heap b p q) (h1:s.heap.IsTupleIter i t1 k1) (h2:s.heap.IsTupleIter j t2 k2) (g1:s.heap.IsTuple t1 xs) (g2:s.heap.IsTuple t2 ys) (hx:xs[k1]?=some x) (hy:ys[k2]?=some y)
 (fin:∀g,IsZip g z a b (rawInt s.heap.objs.size)→IsPair g b x y→g.IsTupleIter i t1 (k1+1)→g.IsTupleIter j t2 (k2+1)→IsPair g s.heap.objs.size x y→
  (∀c o,c≠z→c≠b→c≠i→c≠j→s.heap.get? c=some o→g.get? c=some o)→Q (.ref s.heap.objs.size) {s with heap:=g}):
 wpAny (model prog w) A (Builtin.«zip.__next__» ⟨[.ref z],[]⟩) (λr s'=>∃v,r= .done (.ret v)∧Q v s') E s:=by
 show wpAny _ _ (field (.ref z) 2>>=_) _ _ _;refine Aa (AS hz rfl (x:= .bool false) rfl ?_);show wpAny _ _ (field (.ref z) 3>>=_) _ _ _;refine Aa (AS hz rfl (x:= .ref a) rfl ?_);refine Aa (A_ ha rfl ?_);show wpAny _ _ (Br (.ref z)>>=_) _ _ _;refine Aa ?_;unfold Br;refine Aa (AS hz rfl (x:= .none) rfl (Ac ?_));simp only[if_true];refine Aa (BN ?_);refine Aa (AS hz rfl (x:= .ref b) rfl ?_);refine Aa (Bx hz (by simp) λw1 z1 m1=>?_)
 replace z1:IsZip w1 z a b .ellipsis:=z1
 refine Aa ?_;simp only[List.zipIdx_cons,List.zipIdx_nil,Fp,F9];refine Aa (Aa (EG ?_));show wpAny _ _ (AV (.ref i)>>=_) _ _ _;refine Aa (Od (h1.extBut m1.extBut D.iz) (Kv g1 m1 n1.1) hx λw2 i2 m2=>Ac ?_);have b2:IsPair w2 b p q:=m2.extBut _ _ D.bi (m1.extBut _ _ D.bz hb);refine Aa (A_ b2 rfl ?_);refine Aa (El b2 λw3 b3 m3=>?_)
 replace b3:IsPair w3 b x q:=b3
 refine Aa (Cs (Ac ?_));refine Aa (Aa (EG ?_));show wpAny _ _ (AV (.ref j)>>=_) _ _ _;refine Aa (Od (((h2.extBut m1.extBut D.jz).extBut m2.extBut D.ij.symm).extBut m3.extBut D.bj.symm) (Kv (Kv (Kv g2 m1 n2.1) m2 n2.2.2.1) m3 n2.2.1) hy λw4 j4 m4=>Ac ?_);have b4:IsPair w4 b x q:=m4.extBut _ _ D.bj b3;refine Aa (A_ b4 rfl ?_);refine Aa (El b4 λw5 b5 m5=>?_)
 replace b5:IsPair w5 b x y:=b5
 refine Aa (Cs (Ac (Ac ?_)));refine Aa (A_ b5 rfl ?_);refine Aa (FB ?_);have sz:w5.objs.size=s.heap.objs.size:=by rw[m5.1,m4.1,m3.1,m2.1,m1.1]
 have z5:IsZip w5 z a b .ellipsis:=m5.extBut _ _ D.bz.symm (m4.extBut _ _ D.jz.symm (m3.extBut _ _ D.bz.symm (m2.extBut _ _ D.iz.symm z1)));have k5:∀c o,c≠z→c≠b→c≠i→c≠j→s.heap.get? c=some o→w5.get? c=some o:=λc o c1 c2 c3 c4 e=> m5.extBut _ _ c2 (m4.extBut _ _ c4 (m3.extBut _ _ c2 (m2.extBut _ _ c3 (m1.extBut _ _ c1 e))));have i5:w5.IsTupleIter i t1 (k1+1):=((i2.extBut m3.extBut D.bi.symm).extBut m4.extBut D.ij).extBut m5.extBut D.bi.symm;have j5:w5.IsTupleIter j t2 (k2+1):=j4.extBut m5.extBut D.bj.symm;have zlt:z<w5.objs.size:=Am z5;show wpAny _ _ (Cq (.ref z) (.ref w5.objs.size)>>=_) _ _ _;refine Aa ?_;unfold Cq;have z6:IsZip (w5.push {cls:= .type "tuple",data:= .seq #[x,y]}) z a b .ellipsis:=Ad _ z5;refine Aa (Bx z6 (by simp) λw7 z7 m7=>?_)
 replace z7:IsZip w7 z a b (rawInt w5.objs.size):=z7
 refine Bx z7 (by simp) λw8 z8 m8=>?_
 replace z8:IsZip w8 z a b (rawInt w5.objs.size):=z8
 have up:∀c o,c≠z→w5.get? c=some o→w8.get? c=some o:=λc o c1 e=>m8.extBut _ _ c1 (m7.extBut _ _ c1 (Ad _ e));have t8:IsPair w8 w5.objs.size x y:=m8.extBut _ _ (C7 zlt) (m7.extBut _ _ (C7 zlt) (Ao _ rfl));rw[sz] at z8 t8;refine Ac ⟨_,rfl,?_⟩;show Q (.ref w5.objs.size) _;rw[sz];obtain⟨oi,ei,ri⟩:=i5;obtain⟨oj,ej,rj⟩:=j5;exact fin w8 z8 (up _ _ D.bz b5) ⟨oi,up _ oi D.iz ei,ri⟩ ⟨oj,up _ oj D.jz ej,rj⟩ t8 λc o c1 c2 c3 c4 e=>up c o c1 (k5 c o c1 c2 c3 c4 e)
theorem U6{z i j t1 t2:Addr}{k1 k2:Nat}{xs ys:Array Value}{p q:Value}{Q:Fin→Shared→Prop}(hh:A.handled=none)(D:ZA z a b i j)(n1:t1≠z∧t1≠b∧t1≠i∧t1≠j)(n2:t2≠z∧t2≠b∧t2≠i∧t2≠j)
 (hz:IsZip s.heap z a b .none) (ha:IsPair s.heap a (.ref i) (.ref j)) (hb:IsPair s.heap b p q) (h1:s.heap.IsTupleIter i t1 k1) (h2:s.heap.IsTupleIter j t2 k2) (g1:s.heap.IsTuple t1 xs) (g2:s.heap.IsTuple t2 ys) (hend:xs[k1]?=none∨ys[k2]?=none)
 (fin:∀g e,(∀c o,c≠z→c≠b→c≠i→c≠j→s.heap.get? c=some o→g.get? c=some o)→(∃o,g.get? e=some o∧o.cls= .type "StopIteration")→E (.ref e) {s with heap:=g}):
 wpAny (model prog w) A (Builtin.«zip.__next__» ⟨[.ref z],[]⟩) Q E s:=by
 show wpAny _ _ (field (.ref z) 2>>=_) _ _ _;refine Aa (AS hz rfl (x:= .bool false) rfl ?_);show wpAny _ _ (field (.ref z) 3>>=_) _ _ _;refine Aa (AS hz rfl (x:= .ref a) rfl ?_);refine Aa (A_ ha rfl ?_);show wpAny _ _ (Br (.ref z)>>=_) _ _ _;refine Aa ?_;unfold Br;refine Aa (AS hz rfl (x:= .none) rfl (Ac ?_));simp only[if_true];refine Aa (BN ?_);refine Aa (AS hz rfl (x:= .ref b) rfl ?_);refine Aa (Bx hz (by simp) λw1 z1 m1=>?_)
 replace z1:IsZip w1 z a b .ellipsis:=z1
 refine Aa ?_;simp only[List.zipIdx_cons,List.zipIdx_nil,Fp,F9];refine Aa (Aa (EG ?_));show wpAny _ _ (AV (.ref i)>>=_) _ _ _;cases hx:xs[k1]? with
 | none=>
  refine Aa (Ql hh (h1.extBut m1.extBut D.iz) (Kv g1 m1 n1.1) hx λw2 e m2 he=>?_);obtain⟨oe,e1,e2⟩:=he;have z2:IsZip w2 z a b .ellipsis:=m2 _ _ D.iz.symm z1;have ez:e≠z:=λu=>by subst u;rw[z2] at e1;cases e1;simp at e2
  exact Bx z2 (by simp) λw3 _ m3=>fin w3 e (λc o c1 _ c3 _ u=>m3.extBut _ _ c1 (m2 _ _ c3 (m1.extBut _ _ c1 u))) ⟨oe,m3.extBut _ _ ez e1,e2⟩
 | some x=>
  have hy:ys[k2]?=none:=by
   rcases hend with u | u
   · rw[hx] at u;cases u
   · exact u
  refine Aa (Od (h1.extBut m1.extBut D.iz) (Kv g1 m1 n1.1) hx λw2 i2 m2=>Ac ?_);have b2:IsPair w2 b p q:=m2.extBut _ _ D.bi (m1.extBut _ _ D.bz hb);refine Aa (A_ b2 rfl ?_);refine Aa (El b2 λw3 b3 m3=>?_);refine Aa (Cs (Ac ?_));refine Aa (Aa (EG ?_));show wpAny _ _ (AV (.ref j)>>=_) _ _ _;refine Aa (Ql hh (((h2.extBut m1.extBut D.jz).extBut m2.extBut D.ij.symm).extBut m3.extBut D.bj.symm) (Kv (Kv (Kv g2 m1 n2.1) m2 n2.2.2.1) m3 n2.2.1) hy λw4 e m4 he=>?_);obtain⟨oe,e1,e2⟩:=he;have z4:IsZip w4 z a b .ellipsis:=m4 _ _ D.jz.symm (m3.extBut _ _ D.bz.symm (m2.extBut _ _ D.iz.symm z1));have ez:e≠z:=λu=>by subst u;rw[z4] at e1;cases e1;simp at e2
  exact Bx z4 (by simp) λw5 _ m5=>fin w5 e (λc o c1 c2 c3 c4 u=>m5.extBut _ _ c1 (m4 _ _ c4 (m3.extBut _ _ c2 (m2.extBut _ _ c3 (m1.extBut _ _ c1 u))))) ⟨oe,m5.extBut _ _ ez e1,e2⟩
section
variable{h':Heap}
theorem Inv.newTup{T:Addr}{x y:V}{t':Nat}(I:Inv X pins σ H s)(ch:List Addr)(hch:∀c∈ch,Hm X pins H c)(keep:∀c o,c ∉ ch→s.heap.get? c=some o→h'.get? c=some o)(hT:s.heap.objs.size≤T)
 (tup:∃its:List Value,Vals [x,y] its∧IsTupP h' T its.toArray):Inv X pins σ (Hh H T (.tup [x,y])) {s with heap:=h',toks:=t'}:=by
 have hn:H T=none:=I.hok.fresh hT;have neT:∀c o,s.heap.get? c=some o→c≠T:=λc o e=>Ar (AG (Am e) hT);have off:∀c u,H c=some u→c ∉ ch:=λc u e z=>by rw[(hch c z).1] at e;cases e
 refine I.step (g':=s.gens) (d':=s.drawn) (ch:=ch) (λc hc=>⟨(hch c hc).2.2.2.1,(hch c hc).2.1,(hch c hc).2.2.2.2.1,(hch c hc).2.2.2.2.2⟩) (λc o _ _ hc e _=>keep c o hc e) (λc o _ _ hc e _=>⟨o.slots,keep c o hc e⟩)
  (λc o _ e n=>by rw[HC (neT c o e)];exact n) (λc o hc e=>⟨o,keep c o hc e⟩) (λc xs e=>by rw[HC (Jf e hn)];exact e) (λc o u e=>by rw[HC (Jf e hn)];exact e)
  (λc ps e=>⟨#[],by rw[HC (Jf e hn),e];simp⟩) (λm hm=>?_) (λc u e=>?_) I.bare
 · obtain⟨o,es,ep,ho,r⟩:=hm;exact⟨o,es,ep,keep _ o (λz=>(hch _ z).2.1 rfl) ho,r⟩
 · by_cases hc:c=T
   · subst hc;rw[Hl] at e;cases e;obtain⟨its,r,p⟩:=tup;exact⟨by show 2≤Av;decide,its,r,p⟩
   · rw[HC hc] at e;refine(I.hok c u e).stay (λd v hd q=>keep d v ?_ q) (λd q=>by rw[HC (Jf q hn)];exact q) λd xs q=>by rw[HC (Jf q hn)];exact q
     rcases hd with z | z
     · rw[z];exact off c u e
     · exact off d _ z
theorem Inv.turnedN{t':Nat}(I:Inv X pins σ H s)(ch:List Addr)(hch:∀c∈ch,Hm X pins H c)(keep:∀c o,c ∉ ch→s.heap.get? c=some o→h'.get? c=some o):Inv X pins σ H {s with heap:=h',toks:=t'}:=by
 have off:∀c u,H c=some u→c ∉ ch:=λc u e z=>by rw[(hch c z).1] at e;cases e
 refine I.step (g':=s.gens) (d':=s.drawn) (ch:=ch) (λc hc=>⟨(hch c hc).2.2.2.1,(hch c hc).2.1,(hch c hc).2.2.2.2.1,(hch c hc).2.2.2.2.2⟩) (λc o _ _ hc e _=>keep c o hc e) (λc o _ _ hc e _=>⟨o.slots,keep c o hc e⟩)
  (λc o _ e n=>n) (λc o hc e=>⟨o,keep c o hc e⟩) (λc xs e=>e) (λc o u e=>e) (λc ps e=>⟨#[],by rw[e];simp⟩) (λm hm=>?_) (λc u e=>?_) I.bare
 · obtain⟨o,es,ep,ho,r⟩:=hm;exact⟨o,es,ep,keep _ o (λz=>(hch _ z).2.1 rfl) ho,r⟩
 · refine(I.hok c u e).stay (λd v hd q=>keep d v ?_ q) (λ_ q=>q) λ_ _ q=>q;rcases hd with z | z
   · rw[z];exact off c u e
   · exact off d _ z
theorem Jr{t c:Addr}(I:Inv X pins σ H s)(h:SqT X.K H t xs)(f:Hm X pins H c):t≠c:=by
 intro e;subst e;rcases h with(h | ⟨o,h⟩) | ⟨o,its,n,hk,_⟩
 · rw[f.1] at h;cases h
 · rw[f.1] at h;cases h
 · have eb:=I.ok.mod.kin t o hk;rcases f.2.2.2.1 with z | z
   · exact I.ok.noex t o eb z
   · exact absurd (AG (Am eb) (AT I.ok.bsz z)) (CD _)
end
def NH(K:Ai)(t1 t2:Addr):It:=
 ⟨λk H=>∃(xs ys:List V)(x y:V),SqT K H t1 xs∧SqT K H t2 ys∧xs[k]?=some x∧ys[k]?=some y,
  λk H v H'=>∃p,v= .ref p∧H p=none∧∀(xs ys:List V)(x y:V),SqT K H t1 xs→SqT K H t2 ys→xs[k]?=some x→ys[k]?=some y→H'=Hh H p (.tup [x,y]),
  λk H=>∃(xs ys:List V),SqT K H t1 xs∧SqT K H t2 ys∧(xs.length≤k∨ys.length≤k)⟩
theorem VZ{P:Bt}{w:World}{K:Ai}{es:List Expr}{kk:Nat}{pos:Pos}(t1 t2 z a b i j:Addr)(D:ZA z a b i j):
 Turn P w K (.Tuple es kk pos) (NH K t1 t2) [z,a,b,i,j] z (λk h=>IsZip h z a b .none∧IsPair h a (.ref i) (.ref j)∧(∃p q,IsPair h b p q)∧h.IsTupleIter i t1 k∧h.IsTupleIter j t2 k) where
 mem:=by simp
 obj:=λk h st c hc=>by
  obtain⟨hz,ha,⟨p,q,hb⟩,⟨oi,ei,_,di⟩,⟨oj,ej,_,dj⟩⟩:=st;simp only[Al,AF,or_false] at hc;rcases hc with rfl | rfl | rfl | rfl | rfl
  · exact⟨_,hz,λv e=>by cases e⟩
  · exact⟨_,ha,λv e=>by cases e⟩
  · exact⟨_,hb,λv e=>by cases e⟩
  · exact⟨oi,ei,λv e=>by rw[di] at e;cases e⟩
  · exact⟨oj,ej,λv e=>by rw[dj] at e;cases e⟩
 keep:=λk h h' st kp=>by obtain⟨hz,ha,⟨p,q,hb⟩,⟨oi,ei,ri⟩,⟨oj,ej,rj⟩⟩:=st;exact⟨kp z (by simp) _ hz,kp a (by simp) _ ha,⟨p,q,kp b (by simp) _ hb⟩,⟨oi,kp i (by simp) _ ei,ri⟩,⟨oj,kp j (by simp) _ ej,rj⟩⟩
 item:=by
  intro X hP hw hK hc k pins s σ H E I hf st hg;subst hP hw hK;obtain⟨xs,ys,x,y,q1,q2,hx,hy⟩:=hg;obtain⟨hz,ha,⟨p,q,hb⟩,h1,h2⟩:=st;obtain⟨its1,r1,g1,_⟩:=I.tuple q1;obtain⟨its2,r2,g2,_⟩:=I.tuple q2;obtain⟨u1,hu1,v1⟩:=r1.get hx;obtain⟨u2,hu2,v2⟩:=r2.get hy;have fz:=hf z (by simp);have fb:=hf b (by simp);have fi:=hf i (by simp);have fj:=hf j (by simp);have hT:s.TypeIs (.ref z) "zip":=⟨_,hz,rfl⟩;unfold pyNext;refine Aa (Dz (AW (name:=Cc "__next__") hT Dt (AY Dt hT F3
   (Vw D ⟨Jr I q1 fz,Jr I q1 fb,Jr I q1 fi,Jr I q1 fj⟩ ⟨Jr I q2 fz,Jr I q2 fb,Jr I q2 fi,Jr I q2 fj⟩ hz ha hb h1 h2 g1 g2 (by simpa using hu1) (by simpa using hu2) λg a1 a2 a3 a4 a5 a6=>Ac ?_) (Fj _))))
  refine⟨_,rfl,ET a1 λg' z' m'=>?_⟩;have zT:z≠s.heap.objs.size:=Ar (Am hz);have up:∀c o,c≠z→g.get? c=some o→g'.get? c=some o:=λc o hc e=>m'.extBut c o hc e;have fr:H s.heap.objs.size=none:=I.hok.fresh (Ag _);have I1:Inv X pins σ (Hh H s.heap.objs.size (.tup [x,y])) {s with heap:=g'}:=by
   refine I.newTup (t':=s.toks) [z,b,i,j] (λc hc=>?_) (λc o hc e=>?_) (Ag _) ⟨[u1,u2],.cons v1 (.cons v2 .nil),_,up _ _ zT.symm a5,rfl,rfl,_,rfl⟩
   · simp only[Al,AF,or_false] at hc;rcases hc with rfl | rfl | rfl | rfl
     · exact fz
     · exact fb
     · exact fi
     · exact fj
   · simp only[Al,AF,or_false,not_or] at hc;exact up c o hc.1 (a6 c o hc.1 hc.2.1 hc.2.2.1 hc.2.2.2 e)
  obtain⟨oi,ei,ri⟩:=a3;obtain⟨oj,ej,rj⟩:=a4;refine⟨.ref s.heap.objs.size,_,I1,rfl,⟨_,rfl,fr,λxs' ys' x' y' s1 s2 e1 e2=>?_⟩,⟨z',up _ _ D.az (a6 a _ D.az D.ab D.ai D.aj ha),⟨_,_,up _ _ D.bz a2⟩,⟨oi,up _ _ D.iz ei,ri⟩,⟨oj,up _ _ D.jz ej,rj⟩⟩,λc hc=>?_⟩
  · rw[I.tuple_inj s1 q1,hx] at e1;rw[I.tuple_inj s2 q2,hy] at e2;cases e1;cases e2;rfl
  · have fc:=hf c hc;have:c≠s.heap.objs.size:=by
     simp only[Al,AF,or_false] at hc;obtain⟨oi',ei',_⟩:=h1;obtain⟨oj',ej',_⟩:=h2;rcases hc with rfl | rfl | rfl | rfl | rfl
     · exact zT
     · exact Ar (Am ha)
     · exact Ar (Am hb)
     · exact Ar (Am ei')
     · exact Ar (Am ej')
    rw[HC this];exact fc.1
 done:=by
  intro X hP hw hK hc k pins s σ H E I hf st hg;subst hP hw hK;obtain⟨xs,ys,q1,q2,hend⟩:=hg;obtain⟨hz,ha,⟨p,q,hb⟩,h1,h2⟩:=st;obtain⟨its1,r1,g1,_⟩:=I.tuple q1;obtain⟨its2,r2,g2,_⟩:=I.tuple q2;have l1:=r1.length;have l2:=r2.length;have fz:=hf z (by simp);have fb:=hf b (by simp);have fi:=hf i (by simp);have fj:=hf j (by simp);have hT:s.TypeIs (.ref z) "zip":=⟨_,hz,rfl⟩;unfold pyNext;refine Aa (Dz (AW (name:=Cc "__next__") hT Dt (AY Dt hT F3
   (U6 (I.ok.hd hc) D ⟨Jr I q1 fz,Jr I q1 fb,Jr I q1 fi,Jr I q1 fj⟩ ⟨Jr I q2 fz,Jr I q2 fb,Jr I q2 fi,Jr I q2 fj⟩ hz ha hb h1 h2 g1 g2 ?_ λg e kp he=>?_) (Fj _))))
  · rcases hend with u | u
    · exact .inl (by simp;omega)
    · exact .inr (by simp;omega)
  · obtain⟨o,ho,hcl⟩:=he;refine Aa (Dw (T:="StopIteration") (b:=true) ⟨o,ho,hcl⟩ isSubtype_stop ?_);refine Ac ⟨rfl,I.turnedN (t':=s.toks) [z,b,i,j] (λc hc=>?_) (λc o hc e=>?_)⟩
    · simp only[Al,AF,or_false] at hc;rcases hc with rfl | rfl | rfl | rfl
      · exact fz
      · exact fb
      · exact fi
      · exact fj
    · simp only[Al,AF,or_false,not_or] at hc;exact kp c o hc.1 hc.2.1 hc.2.2.1 hc.2.2.2 e
 self:=λ_ _ _ _ _ st h=>D_ st.1 h
abbrev KQ(h:Heap)(t:Addr):Heap:=h.push {cls:= .type "tuple_iterator",data:= .fields #[.ref t,.int 0 0]}
abbrev KP(h:Heap)(t u:Addr):Heap:=(KQ h t).push {cls:= .type "tuple_iterator",data:= .fields #[.ref u,.int 0 0]}
abbrev KO(h:Heap)(t u:Addr):Heap:=(KP h t u).push {cls:= .type "tuple",data:= .seq #[.ref h.objs.size,.ref (KQ h t).objs.size]}
abbrev Lz(h:Heap)(t u:Addr):Heap:=(KO h t u).push {cls:= .type "tuple",data:= .seq #[.none,.none]}
abbrev K8(h:Heap)(t u:Addr):Heap:=(Lz h t u).push {cls:= .type "zip",data:= .fields #[.none,.bool false,.bool false,.ref (KP h t u).objs.size,.ref (KO h t u).objs.size]}
theorem U7(t u:Addr)(xs ys:Array Value):Meets (Builtin.«zip.__new__» ⟨[.type "zip",.ref t,.ref u],[]⟩) (λ_ R s=>s.heap.IsTuple t xs∧s.heap.IsTuple u ys∧
 R (.ok (.ret (.ref (Lz s.heap t u).objs.size))) {s with heap:=K8 s.heap t u}):=
 .of_wp λprog w A R s h=>by
  obtain⟨hp,g,d,tk,os⟩:=s;obtain⟨g1,g2,h⟩:=h;have f0:=sub_zip;have f1:Heap.IsTuple (Shared.heap ⟨hp,g,d,tk,os⟩) t xs:=g1;have f2:Heap.IsTuple (Shared.heap ⟨hp.push {cls:= .type "tuple_iterator",data:= .fields #[.ref t,.int 0 0]},g,d,tk,os⟩) u ys:=Heap.IsTuple.push g2 _
  wp_walk using CO f1,CO f2
  exact⟨_,rfl,h⟩
theorem Q4:Bd "zip"=some (.type "zip"):=by decide+kernel
def Pz(K:Ai)(ta:TA):TI:=λσ H R=>ta σ H λvs H1=>∃t u,vs=[.ref t,.ref u]∧(∃xs,SqT K H1 t xs)∧(∃ys,SqT K H1 u ys)∧R (NH K t u) H1
theorem UL{es:List Expr}{kk:Nat}{tpos:Pos}{a b:Expr}{ta:TA}{p pos:Pos}(hg:Gl X "zip")(hm:X.mg "zip"=none)(ha:PA X [a,b] ta)
 (he:AL [a,b] X.env=(false,eval a X.env)::AL [b] X.env:=by rfl) (hpl:(backTo pos (AL [b] X.env)).any (·.1)=false:=by rfl):
 PI X (.Tuple es kk tpos) (.Call (.Name "zip" p) [a,b] [] pos) (Pz X.K ta):=by
 intro pins s σ H R I h;refine BU (JZ I hg hm Q4 ?_ (by decide) (by decide));refine BS (Hj (ha pos pins s σ H _ I h) λus s1 ⟨vs,H1,I1,r1,t,u,e,⟨xs,q1⟩,⟨ys,q2⟩,q⟩=>?_) he hpl;subst e;obtain⟨u1,u2,rfl,v1,v2⟩:=MV r1;cases v1;cases v2;obtain⟨its1,rv1,g1,_⟩:=I1.tuple q1;obtain⟨its2,rv2,g2,_⟩:=I1.tuple q2;refine callType_new PySem.F.called_zip (by decide) (PySem.F.typeCall_zip_2 _ _) (PySem.F.newCall_zip_2 _ _) (λobj=>PySem.F.args_object_init_3 obj _ _) PySem.F.entry_zip_new (U7 t u its1.toArray its2.toArray) ⟨g1,g2,?_⟩;have y1:(KQ s1.heap t).objs.size=s1.heap.objs.size+1:=Bk ..;have y2:(KP s1.heap t u).objs.size=s1.heap.objs.size+2:=by rw[Bk,y1]
 have y3:(KO s1.heap t u).objs.size=s1.heap.objs.size+3:=by rw[Bk,y2]
 have y4:(Lz s1.heap t u).objs.size=s1.heap.objs.size+4:=by rw[Bk,y3]
 have k5:∀c o,s1.heap.get? c=some o→(K8 s1.heap t u).get? c=some o:=λc o e=>Ad _ (Ad _ (Ad _ (Ad _ (Ad _ e))));have e5:(K8 s1.heap t u).get? (Lz s1.heap t u).objs.size=some _:=Ao _ rfl;have e4:(K8 s1.heap t u).get? (KO s1.heap t u).objs.size=some _:=Ad _ (Ao _ rfl);have e3:(K8 s1.heap t u).get? (KP s1.heap t u).objs.size=some _:=Ad _ (Ad _ (Ao _ rfl));have e2:(K8 s1.heap t u).get? (KQ s1.heap t).objs.size=some _:=Ad _ (Ad _ (Ad _ (Ao _ rfl)));have e1:(K8 s1.heap t u).get? s1.heap.objs.size=some _:=Ad _ (Ad _ (Ad _ (Ad _ (Ao _ rfl))));have I2:Inv X pins σ H1 {s1 with heap:=K8 s1.heap t u}:=I1.kept (t':=s1.toks) k5
 have fp:∀c,s1.heap.objs.size≤c→Hm X pins H1 c:=λc hc=>I1.fpOk hc (I1.hok.fresh hc);have D:ZA (Lz s1.heap t u).objs.size (KP s1.heap t u).objs.size (KO s1.heap t u).objs.size s1.heap.objs.size (KQ s1.heap t).objs.size:=by
  have n4:(KO s1.heap t u).objs.size<(Lz s1.heap t u).objs.size:=by rw[y3,y4];exact B_ _
  have n3:(KP s1.heap t u).objs.size<(KO s1.heap t u).objs.size:=by rw[y2,y3];exact B_ _
  have n2:(KQ s1.heap t).objs.size<(KP s1.heap t u).objs.size:=by rw[y1,y2];exact B_ _
  have n1:s1.heap.objs.size<(KQ s1.heap t).objs.size:=by rw[y1];exact B_ _
  exact⟨Ar (Cd n3 n4),Ar n4,Ar (Cd n1 (Cd n2 (Cd n3 n4))),Ar (Cd n2 (Cd n3 n4)),Ar n3,C7 (Cd n1 n2),C7 n2,
   C7 (Cd n1 (Cd n2 n3)),C7 (Cd n2 n3),Ar n1⟩
 refine⟨⟨_,e5,rfl⟩,D_ e5 ?_⟩;refine⟨_,_,_,_,H1,rfl,I2,VZ t u _ _ _ _ _ D,⟨e5,e3,⟨_,_,e4⟩,⟨_,e1,rfl,rfl⟩,⟨_,e2,rfl,rfl⟩⟩,λc hc=>fp c ?_,q⟩;simp only[Al,AF,or_false] at hc;rcases hc with rfl | rfl | rfl | rfl | rfl
 · rw[y4];exact Dh _ _
 · rw[y2];exact Dh _ _
 · rw[y3];exact Dh _ _
 · exact Ag _
 · rw[y1];exact Dh _ _
section
variable{tg iter kx vx:Expr}{ifs:List Expr}{wi:TI}{js:Im}{g:TG}{tc:TT}{tk tv:TE}{N':List Str}
end
theorem VR{t sl:Addr}{items:Array Value}{vl vu:Value}{lo hi:Option Int}{Q:Value→Shared→Prop}(ht:IsTup s.heap t items)(hs:s.heap.IsSliceOf sl vl vu .none)(pl:IsPart vl lo)(pu:IsPart vu hi)
 (h0:HT.sIx items.size 0 lo=0) (h1:HT.sIx items.size items.size hi=items.size) (h:Q (.ref t) s):wpAny (model prog w) A (getItem (.ref t) (.ref sl)) Q E s:=by
 obtain⟨os,hos,hcs,hds⟩:=id hs;have hTs:s.TypeIs (.ref sl) "slice":=⟨os,hos,hcs⟩;unfold getItem
 try with_reducible refine Bh ?_
 first | refine Aa (Ac ?_) | skip
 refine Aa (EO ht.typeIs (by decide) ?_);refine Aa (AW (name:=Cc "__getitem__") ht.typeIs BE
  (AY BE ht.typeIs PySem.F.entry_tuple_getitem ?_ (PySem.F.args_tuple_getitem_2 _ _)))
 show wpAny _ _ (EF (.ref t)>>=_) _ _ s;refine Aa (tupleItemsOf_ ht ?_);refine Aa (CP hTs ?_);rw[if_pos (by decide)];refine Aa (HT.sliceApplied_gen hs pl pu ?_);have yes:((((HT.sIx items.size 0 lo:Nat):Int)==0 && (1:Int)==1 && (HT.sIx items.size items.size hi - HT.sIx items.size 0 lo)==items.size)=true):=by rw[h0,h1];simp
 show wpAny _ _ (if(((HT.sIx items.size 0 lo:Nat):Int)==0 && (1:Int)==1 && (HT.sIx items.size items.size hi - HT.sIx items.size 0 lo)==items.size)=true then _ else _) _ _ s
 rw[if_pos yes];unfold Builtin.Tuple.tupleIsExact;refine Aa (Aa (CP ht.typeIs (Ac ?_)));rw[if_pos (by decide)];exact Aa (BN (Ac ⟨_,rfl,Ac h⟩))
def Mw(K:Ai):V→Option Int→Option Int→Hp→VK→Prop:=λx lo hi H Q=>∃a xs,x= .ref a∧SqT K H a xs∧
 (HT.sIx xs.length 0 lo=0∧HT.sIx xs.length xs.length hi=xs.length→Q (.ref a) H)∧
 (¬(HT.sIx xs.length 0 lo=0∧HT.sIx xs.length xs.length hi=xs.length)→∀p,H p=none→Q (.ref p) (Hh H p (.tup (HV xs lo hi))))
theorem QJ:LL X (Mw X.K):=by
 intro pins s σ H x v vl vu lo hi sl Q I rx hs pl pu h;obtain⟨a,xs,rfl,hx,q1,q2⟩:=h;by_cases hw:HT.sIx xs.length 0 lo=0∧HT.sIx xs.length xs.length hi=xs.length
 · cases rx;obtain⟨its,r,ht,hz⟩:=I.tuple hx;have hlen:its.toArray.size=xs.length:=by rw[Aw];exact r.length.symm
   refine⟨"tuple",_,BE.lookup,ht.typeIs,?_⟩;exact VR ht hs pl pu (by rw[hlen];exact hw.1) (by rw[hlen];exact hw.2) ⟨.ref a,H,I,rfl,q1 hw⟩
 · exact UR pins s σ H (.ref a) v vl vu lo hi sl Q I rx hs pl pu ⟨a,xs,rfl,hx,hw,q2 hw⟩
theorem Ux{Q:VK}(h:SqT K H a xs)(q:∀p H',Same H H'→SqT K H' p (xs.drop 1)→Q (.ref p) H'):Mw K (.ref a) (some 1) none H Q:=by
 have e0:HT.sIx xs.length 0 (some 1)=min 1 xs.length:=HT.sIx_nat _ _ 1;refine⟨a,xs,rfl,h,λhw=>?_,λhw p hp=>?_⟩
 · rw[e0] at hw;have hl:xs.length=0:=by omega
   have hx:xs=[]:=Cu.mp hl;subst hx;exact q a H (Same.refl _) h
 · refine q p _ (Hx hp _) (SqT.of ?_);rw[Hl];unfold HV;rw[e0,show HT.sIx xs.length xs.length none=xs.length from rfl];cases xs with
   | nil=>rfl
   | cons x r=>
    have e1:min 1 (x::r).length=1:=by rw[AN];omega
    rw[e1];congr 2;rw[AN,Nat.add_sub_cancel];exact AH (by simp)
theorem MX(K:Ai)(h:X.K=K):ML X (My K):=by subst h;exact J0
theorem Mb(K:Ai)(h:X.K=K){es:List Expr}{k:Nat}{t:KM}{n:Nat}{pos:Pos}(hc:X.calm=true)(hg:MI X es t)
 (hn:(assignEach es X.env).length=n:=by rfl) (hst:(assignEach es X.env).findIdx? (·.1)=none:=by rfl):PG X (.Tuple es k pos) (MF K n t):=by subst h;exact Jq hc hg hn hst
theorem Tq{K:Ai}{t1 t2 p:Addr}{ys:List V}{g:TG}{tc:TT}{te:TE}{Q:VK}{js:Im}(h1:n≤xs.length)(h2:n≤ys.length)(h3:xs.length≤n∨ys.length≤n)(Pv:Nat→St→List V→Hp→Prop)(h0:Pv 0 (IJ js σ) [] (Hh H p (.lst [])))
 (hl:∀i σ zs H,i≤n→Pv i σ zs H→SqT K H t1 xs∧SqT K H t2 ys∧H p=some (.lst zs)∧zs.length<Av)
 (hs:∀(i:Nat)x y σ zs H q(N:St→List V→Hp→Prop),xs[i]?=some x→ys[i]?=some y→H q=none→Pv i σ zs H→(∀σ' ys' H',Pv (i+1) σ' ys' H'→N σ' ys' H')→KU p g tc te zs (.ref q) σ (Hh H q (.tup [x,y])) N)
 (hd:∀σ zs H,Pv n σ zs H→Q (.ref p) H):JF (NH K t1 t2) p js g tc te σ H Q:=
 L6 (n:=n) (J:=NH K t1 t2) (js:=js) (σ:=σ) (H:=H) (p:=p) (Q:=Q) (g:=g) (tc:=tc) (te:=te) Pv h0 (λi σ zs H hi pv=>(hl i σ zs H hi pv).2.2)
  (λi σ zs H hi pv=>⟨xs,ys,xs[i],ys[i],(hl i σ zs H (AU hi) pv).1,(hl i σ zs H (AU hi) pv).2.1,by simp,by simp⟩)
  (λσ zs H pv=>⟨xs,ys,(hl _ σ zs H (Ag _) pv).1,(hl _ σ zs H (Ag _) pv).2.1,h3⟩)
  (λi v σ zs H H' N hi y pv hN=>by
   obtain⟨q,e,hq,y⟩:=y;subst e;have ex:xs[i]?=some xs[i]:=by simp
   have ey:ys[i]?=some ys[i]:=by simp
   have e2:=y xs ys _ _ (hl i σ zs H (AU hi) pv).1 (hl i σ zs H (AU hi) pv).2.1 ex ey;subst e2;exact hs i _ _ σ zs H q N ex ey hq pv hN) hd
section
variable{h':Heap}
theorem KD{t c:Addr}(I:Inv X pins σ H s)(h:SqL X.K H t xs)(f:Hm X pins H c):t≠c:=by
 intro e;subst e;rcases h with(h | ⟨o,h⟩) | ⟨o,its,n,hk,_⟩
 · rw[f.1] at h;cases h
 · rw[f.1] at h;cases h
 · have eb:=I.ok.mod.kin t o hk;rcases f.2.2.2.1 with z | z
   · exact I.ok.noex t o eb z
   · exact absurd (AG (Am eb) (AT I.ok.bsz z)) (CD _)
end
def MN(K:Ai)(a:Addr):It:=
 ⟨λk H=>∃(xs:List V)(x:V),SqL K H a xs∧xs[k]?=some x,
  λk H v H'=>∃p,v= .ref p∧H p=none∧∀(xs:List V)(x:V),SqL K H a xs→xs[k]?=some x→H'=Hh H p (.tup [.int k,x]),
  λk H=>∃(xs:List V),SqL K H a xs∧xs.length≤k⟩
theorem Wc{P:Bt}{w:World}{K:Ai}{es:List Expr}{kk:Nat}{pos:Pos}(a e it:Addr)(D:e≠it):
 Turn P w K (.Tuple es kk pos) (MN K a) [e,it] e (λk h=>(∃old,IsEnum h e it k old)∧h.IsListIter it a k) where
 mem:=by simp
 obj:=λk h st c hc=>by
  obtain⟨⟨old,hz⟩,⟨oi,ei,_,di⟩⟩:=st;simp only[Al,AF,or_false] at hc;rcases hc with rfl | rfl
  · exact⟨_,hz,λv e=>by cases e⟩
  · exact⟨oi,ei,λv e=>by rw[di] at e;cases e⟩
 keep:=λk h h' st kp=>by obtain⟨⟨old,hz⟩,⟨oi,ei,ri⟩⟩:=st;exact⟨⟨old,kp e (by simp) _ hz⟩,⟨oi,kp it (by simp) _ ei,ri⟩⟩
 item:=by
  intro X hP hw hK hc k pins s σ H E I hf st hg;subst hP hw hK;obtain⟨xs,x,q1,hx⟩:=hg;obtain⟨⟨old,hz⟩,h1⟩:=st;obtain⟨its1,r1,g1,_⟩:=I.list q1;obtain⟨u1,hu1,v1⟩:=r1.get hx;have fz:=hf e (by simp);have fi:=hf it (by simp);refine wpAny_pyNext_enum_item hz h1 g1.isList (by simpa using hu1) D λg a1 a2 a3 a4 a5=>?_;refine⟨_,rfl,EH a1 λg' z' m'=>?_⟩;have zT:e≠s.heap.objs.size:=Ar (Am hz);have up:∀c o,c≠e→g.get? c=some o→g'.get? c=some o:=λc o hc e=>m'.extBut c o hc e;have fr:H s.heap.objs.size=none:=I.hok.fresh (Ag _);have I1:Inv X pins σ (Hh H s.heap.objs.size (.tup [.int k,x])) {s with heap:=g',toks:=s.toks+1}:=by
   refine I.newTup (t':=s.toks+1) [e,it] (λc hc=>?_) (λc o hc e=>?_) (Ag _) ⟨[.int k s.toks,u1],.cons ⟨_,rfl⟩ (.cons v1 .nil),_,up _ _ zT.symm a3,rfl,rfl,_,rfl⟩
   · simp only[Al,AF,or_false] at hc;rcases hc with rfl | rfl
     · exact fz
     · exact fi
   · simp only[Al,AF,or_false,not_or] at hc;exact up c o hc.1 (a5 c o hc.1 hc.2 e)
  obtain⟨oi,ei,ri⟩:=a2;refine⟨.ref s.heap.objs.size,_,I1,rfl,⟨_,rfl,fr,λxs' x' s1 e1=>?_⟩,⟨⟨_,z'⟩,⟨oi,up _ _ D.symm ei,ri⟩⟩,λc hc=>?_⟩
  · rw[I.list_inj s1 q1,hx] at e1;cases e1;rfl
  · have fc:=hf c hc;have:c≠s.heap.objs.size:=by
     simp only[Al,AF,or_false] at hc;obtain⟨oi',ei',_⟩:=h1;rcases hc with rfl | rfl
     · exact zT
     · exact Ar (Am ei')
    rw[HC this];exact fc.1
 done:=by
  intro X hP hw hK hc k pins s σ H E I hf st hg;subst hP hw hK;obtain⟨xs,q1,hend⟩:=hg;obtain⟨⟨old,hz⟩,h1⟩:=st;obtain⟨its1,r1,g1,_⟩:=I.list q1;have l1:=r1.length;refine wpAny_pyNext_enum_end (I.ok.hd hc) hz h1 g1.isList (by simp;omega) λg kp=>?_;refine⟨rfl,I.turnedN (t':=s.toks) [it] (λc hc=>?_) (λc o hc e=>?_)⟩
  · simp only[Al,AF,or_false] at hc;subst hc;exact hf c (by simp)
  · simp only[Al,AF,or_false] at hc;exact kp c o hc e
 self:=λ_ _ _ _ _ st h=>by obtain⟨⟨old,hz⟩,_⟩:=st;exact DN hz h
theorem SQ:Bd "enumerate"=some (.type "enumerate"):=by decide+kernel
def TB(K:Ai)(ta:TA):TI:=λσ H R=>ta σ H λvs H1=>∃t,vs=[.ref t]∧(∃xs,SqL K H1 t xs)∧R (MN K t) H1
theorem Ui{es:List Expr}{kk:Nat}{tpos:Pos}{a:Expr}{ta:TA}{p pos:Pos}(hg:Gl X "enumerate")(hm:X.mg "enumerate"=none)(ha:PA X [a] ta)
 (he:AL [a] X.env=(false,eval a X.env)::AL [] X.env:=by rfl) (hpl:(backTo pos (AL [] X.env)).any (·.1)=false:=by rfl):
 PI X (.Tuple es kk tpos) (.Call (.Name "enumerate" p) [a] [] pos) (TB X.K ta):=by
 intro pins s σ H R I h;refine BU (JZ I hg hm SQ ?_ (by decide) (by decide));refine BS (Hj (ha pos pins s σ H _ I h) λus s1 ⟨vs,H1,I1,r1,t,e,⟨xs,q1⟩,q⟩=>?_) he hpl;subst e;obtain⟨u1,rfl,v1⟩:=Jy r1;cases v1;obtain⟨its1,rv1,⟨o,n,g0,g1,g2,g3⟩,_⟩:=I1.list q1;obtain⟨oc,od,odat,osl⟩:=o;cases g1;cases g2;cases g3;refine callType_new Fd (by decide) (Ew _) (E5 _) (λobj=>EI obj _) E6 (meets_enumerate_newL t its1.toArray n none osl) ⟨g0,?_⟩;generalize hh5:((s1.heap.push {cls:= .type "list_iterator",data:= .fields #[.ref t,.int 0 0]}).push {cls:= .type "enumerate",data:= .fields #[.none,.bool false,.ref s1.heap.objs.size,rawInt 0,.none,.none]})=h5;have y1:(s1.heap.push {cls:= .type "list_iterator",data:= .fields #[.ref t,.int 0 0]}).objs.size=s1.heap.objs.size+1:=Bk ..;have k5:∀c o,s1.heap.get? c=some o→h5.get? c=some o:=λc o e=>by rw[←hh5];exact Ad _ (Ad _ e)
 have e5:IsEnum h5 (s1.heap.objs.size+1) s1.heap.objs.size 0 .none:=by have:=Ao (s1.heap.push {cls:= .type "list_iterator",data:= .fields #[.ref t,.int 0 0]}) (o:={cls:= .type "enumerate",data:= .fields #[.none,.bool false,.ref s1.heap.objs.size,rawInt 0,.none,.none]}) rfl;rw[y1,hh5] at this;exact this
 have e1:h5.IsListIter s1.heap.objs.size t 0:=by rw[←hh5];exact⟨_,Ad _ (Ao _ rfl),rfl,rfl⟩
 have I2:Inv X pins σ H1 {s1 with heap:=h5}:=I1.kept (t':=s1.toks) k5
 have fp:∀c,s1.heap.objs.size≤c→Hm X pins H1 c:=λc hc=>I1.fpOk hc (I1.hok.fresh hc);show _∧_;rw[y1];refine⟨⟨_,e5,rfl⟩,DN e5 ?_⟩;refine⟨_,_,_,_,H1,rfl,I2,Wc t _ _ (C7 (B_ _)),⟨⟨_,e5⟩,e1⟩,λc hc=>fp c ?_,q⟩;simp only[Al,AF,or_false] at hc;rcases hc with rfl | rfl
 · exact De _
 · exact Ag _
section
variable{te:TE}{p2 p3 p4:Pos}
end
def Pb(ns:List Int):Nat:=(ns.foldl step_dedup []).length
section
variable{te:TE}{p2 p3 p4:Pos}
end
def K7(K:Ai)(t1 t2:Addr):It:=
 ⟨λk H=>∃(xs ys:List V)(x y:V),SqL K H t1 xs∧SqL K H t2 ys∧xs[k]?=some x∧ys[k]?=some y,
  λk H v H'=>∃p,v= .ref p∧H p=none∧∀(xs ys:List V)(x y:V),SqL K H t1 xs→SqL K H t2 ys→xs[k]?=some x→ys[k]?=some y→H'=Hh H p (.tup [x,y]),
  λk H=>∃(xs ys:List V),SqL K H t1 xs∧SqL K H t2 ys∧(xs.length≤k∨ys.length≤k)⟩
theorem Rj{z i j t1 t2:Addr}{ys:List V}(D:ZA z a b i j)(I:Inv X pins σ H s)(q1:SqL X.K H t1 xs)(q2:SqL X.K H t2 ys)
 (fz:Hm X pins H z) (fb:Hm X pins H b) (fi:Hm X pins H i) (fj:Hm X pins H j):ZipApart z a b i j t1 t2:=
 ⟨D.az,D.bz,D.iz,D.jz,D.ab,D.ai,D.aj,D.bi,D.bj,D.ij,KD I q1 fz,KD I q1 fb,KD I q1 fi,KD I q1 fj,KD I q2 fz,KD I q2 fb,KD I q2 fi,KD I q2 fj⟩
theorem We{P:Bt}{w:World}{K:Ai}{es:List Expr}{kk:Nat}{pos:Pos}(t1 t2 z a b i j:Addr)(D:ZA z a b i j):
 Turn P w K (.Tuple es kk pos) (K7 K t1 t2) [z,a,b,i,j] z (λk h=>IsZip h z a b .none∧IsPair h a (.ref i) (.ref j)∧(∃p q,IsPair h b p q)∧h.IsListIter i t1 k∧h.IsListIter j t2 k) where
 mem:=by simp
 obj:=λk h st c hc=>by
  obtain⟨hz,ha,⟨p,q,hb⟩,⟨oi,ei,_,di⟩,⟨oj,ej,_,dj⟩⟩:=st;simp only[Al,AF,or_false] at hc;rcases hc with rfl | rfl | rfl | rfl | rfl
  · exact⟨_,hz,λv e=>by cases e⟩
  · exact⟨_,ha,λv e=>by cases e⟩
  · exact⟨_,hb,λv e=>by cases e⟩
  · exact⟨oi,ei,λv e=>by rw[di] at e;cases e⟩
  · exact⟨oj,ej,λv e=>by rw[dj] at e;cases e⟩
 keep:=λk h h' st kp=>by obtain⟨hz,ha,⟨p,q,hb⟩,⟨oi,ei,ri⟩,⟨oj,ej,rj⟩⟩:=st;exact⟨kp z (by simp) _ hz,kp a (by simp) _ ha,⟨p,q,kp b (by simp) _ hb⟩,⟨oi,kp i (by simp) _ ei,ri⟩,⟨oj,kp j (by simp) _ ej,rj⟩⟩
 item:=by
  intro X hP hw hK hc k pins s σ H E I hf st hg;subst hP hw hK;obtain⟨xs,ys,x,y,q1,q2,hx,hy⟩:=hg;obtain⟨hz,ha,⟨p,q,hb⟩,h1,h2⟩:=st;obtain⟨its1,r1,g1,_⟩:=I.list q1;obtain⟨its2,r2,g2,_⟩:=I.list q2;obtain⟨u1,hu1,v1⟩:=r1.get hx;obtain⟨u2,hu2,v2⟩:=r2.get hy;have fz:=hf z (by simp);have fb:=hf b (by simp);have fi:=hf i (by simp);have fj:=hf j (by simp);refine wpAny_pyNext_zip_item (Rj D I q1 q2 fz fb fi fj) hz ha hb h1 h2 g1.isList g2.isList (by simpa using hu1) (by simpa using hu2) λg a1 a2 a3 a4 a5 a6' a6=>?_;refine⟨_,rfl,ET a1 λg' z' m'=>?_⟩;have zT:z≠s.heap.objs.size:=Ar (Am hz);have up:∀c o,c≠z→g.get? c=some o→g'.get? c=some o:=λc o hc e=>m'.extBut c o hc e;have fr:H s.heap.objs.size=none:=I.hok.fresh (Ag _);have I1:Inv X pins σ (Hh H s.heap.objs.size (.tup [x,y])) {s with heap:=g'}:=by
   refine I.newTup (t':=s.toks) [z,b,i,j] (λc hc=>?_) (λc o hc e=>?_) (Ag _) ⟨[u1,u2],.cons v1 (.cons v2 .nil),_,up _ _ zT.symm a5,rfl,rfl,_,rfl⟩
   · simp only[Al,AF,or_false] at hc;rcases hc with rfl | rfl | rfl | rfl
     · exact fz
     · exact fb
     · exact fi
     · exact fj
   · simp only[Al,AF,or_false,not_or] at hc;exact up c o hc.1 (a6 c o hc.1 hc.2.1 hc.2.2.1 hc.2.2.2 e)
  obtain⟨oi,ei,ri⟩:=a3;obtain⟨oj,ej,rj⟩:=a4;refine⟨.ref s.heap.objs.size,_,I1,rfl,⟨_,rfl,fr,λxs' ys' x' y' s1 s2 e1 e2=>?_⟩,⟨z',up _ _ D.az (a6 a _ D.az D.ab D.ai D.aj ha),⟨_,_,up _ _ D.bz a2⟩,⟨oi,up _ _ D.iz ei,ri⟩,⟨oj,up _ _ D.jz ej,rj⟩⟩,λc hc=>?_⟩
  · rw[I.list_inj s1 q1,hx] at e1;rw[I.list_inj s2 q2,hy] at e2;cases e1;cases e2;rfl
  · have fc:=hf c hc;have:c≠s.heap.objs.size:=by
     simp only[Al,AF,or_false] at hc;obtain⟨oi',ei',_⟩:=h1;obtain⟨oj',ej',_⟩:=h2;rcases hc with rfl | rfl | rfl | rfl | rfl
     · exact zT
     · exact Ar (Am ha)
     · exact Ar (Am hb)
     · exact Ar (Am ei')
     · exact Ar (Am ej')
    rw[HC this];exact fc.1
 done:=by
  intro X hP hw hK hc k pins s σ H E I hf st hg;subst hP hw hK;obtain⟨xs,ys,q1,q2,hend⟩:=hg;obtain⟨hz,ha,⟨p,q,hb⟩,h1,h2⟩:=st;obtain⟨its1,r1,g1,_⟩:=I.list q1;obtain⟨its2,r2,g2,_⟩:=I.list q2;have l1:=r1.length;have l2:=r2.length;have fz:=hf z (by simp);have fb:=hf b (by simp);have fi:=hf i (by simp);have fj:=hf j (by simp);refine wpAny_pyNext_zip_end (I.ok.hd hc) (Rj D I q1 q2 fz fb fi fj) hz ha hb h1 h2 g1.isList g2.isList ?_ λg kp=>?_
  · rcases hend with u | u
    · exact .inl (by simp;omega)
    · exact .inr (by simp;omega)
  · refine⟨rfl,I.turnedN (t':=s.toks) [z,b,i,j] (λc hc=>?_) (λc o hc e=>?_)⟩
    · simp only[Al,AF,or_false] at hc;rcases hc with rfl | rfl | rfl | rfl
      · exact fz
      · exact fb
      · exact fi
      · exact fj
    · simp only[Al,AF,or_false,not_or] at hc;exact kp c o hc.1 hc.2.1 hc.2.2.1 hc.2.2.2 e
 self:=λ_ _ _ _ _ st h=>D_ st.1 h
def TD(K:Ai)(ta:TA):TI:=λσ H R=>ta σ H λvs H1=>∃t u,vs=[.ref t,.ref u]∧(∃xs,SqL K H1 t xs)∧(∃ys,SqL K H1 u ys)∧R (K7 K t u) H1
theorem Uk{es:List Expr}{kk:Nat}{tpos:Pos}{a b:Expr}{ta:TA}{p pos:Pos}(hg:Gl X "zip")(hm:X.mg "zip"=none)(ha:PA X [a,b] ta)
 (he:AL [a,b] X.env=(false,eval a X.env)::AL [b] X.env:=by rfl) (hpl:(backTo pos (AL [b] X.env)).any (·.1)=false:=by rfl):
 PI X (.Tuple es kk tpos) (.Call (.Name "zip" p) [a,b] [] pos) (TD X.K ta):=by
 intro pins s σ H R I h;refine BU (JZ I hg hm Q4 ?_ (by decide) (by decide));refine BS (Hj (ha pos pins s σ H _ I h) λus s1 ⟨vs,H1,I1,r1,t,u,e,⟨xs,q1⟩,⟨ys,q2⟩,q⟩=>?_) he hpl;subst e;obtain⟨u1,u2,rfl,v1,v2⟩:=MV r1;cases v1;cases v2;obtain⟨its1,rv1,g1,_⟩:=I1.list q1;obtain⟨its2,rv2,g2,_⟩:=I1.list q2;refine call_zip_2 g1.isList g2.isList λh' e5 e3 e4 e1 e2 hz k5=>?_;have I2:Inv X pins σ H1 {s1 with heap:=h'}:=I1.kept (t':=s1.toks) k5
 have fp:∀c,s1.heap.objs.size≤c→Hm X pins H1 c:=λc hc=>I1.fpOk hc (I1.hok.fresh hc);have D:ZA (s1.heap.objs.size+4) (s1.heap.objs.size+2) (s1.heap.objs.size+3) s1.heap.objs.size (s1.heap.objs.size+1):=by constructor<;>exact λz=>by have:(_:Nat)=_:=z;omega
 refine D_ e5 ?_;refine⟨_,_,_,_,H1,rfl,I2,We t u _ _ _ _ _ D,⟨e5,e3,⟨_,_,e4⟩,e1,e2⟩,λc hc=>fp c ?_,q⟩;simp only[Al,AF,or_false] at hc;rcases hc with rfl | rfl | rfl | rfl | rfl
 all_goals first | exact Ag _ | exact Dh _ _
end L2
namespace WB
end WB
namespace L2
def PZ(i j:Int):Prop:=i.natAbs<2^1000∧j.natAbs<2^1000
theorem L8:Ie X (binaryOp .Mult) (rI PZ λi j=> .int (i*j)):=M3 λi j _ _ _ _ _ hc q=> mul_int q (IntMulOk.of_bits (AT (intBits_le hc.1) (by decide)) (AT (intBits_le hc.2) (by decide)))
theorem Tu(K:Ai)(h:X.K=K):Ie X (BD .In) (ND K false):=by subst h;exact RW
theorem Wq(K:Ai)(h:X.K=K):Ie X (BD .NotIn) (ND K true):=by subst h;exact SJ
theorem XQ(K:Ai)(h:X.K=K):J5 X (.builtin "len") (λxs H Q=>∃p ys,xs=[.ref p]∧(SqL K H p ys∨SqT K H p ys)∧Q (.int ys.length) H):=by subst h;exact IM
section
variable{Q:VK}
end
theorem nb{i:Int}(h0:0≤i)(h1:i<2^400):i.natAbs<2^1000:=by
 have:i.natAbs<2^400:=by omega
 exact AG this (by decide)
def MU(K:Ai):Sp:=λvs H Q _=>∃(a:Addr)(ns:List Int),vs=[.ref a]∧SqL K H a (ns.map V.int)∧ns.length≤63∧∀H',Q (.bl true) H'
theorem mx(i j:Int):(if j>i then j else i)=max i j:=by rw[Int.max_def];split<;>split<;>omega
theorem mn(i j:Int):(if j<i then j else i)=min i j:=by rw[Int.min_def];split<;>split<;>omega
def Tups(H H':Hp):Prop:=∀a xs,H a=some (.tup xs)→H' a=some (.tup xs)
theorem Tups.trans{H1 H2:Hp}(a:Tups H H1)(b:Tups H1 H2):Tups H H2:=λc xs h=>b c xs (a c xs h)
theorem Same.tups{H':Hp}(s:Same H H'):Tups H H':=λa xs h=>s _ _ h
theorem Kc{p:Addr}{ys:List V}{o:HO}(h:H p=some (.lst ys)):Tups H (Hh H p o):=λa xs e=>by rw[HC (JX e h (by intro z;cases z))];exact e
theorem JA{H0:Hp}{p:Addr}{o:HO}(s:Same H0 H)(n:H0 p=none):Same H0 (Hh H p o):=λa u e=>by rw[HC (Jf e n)];exact s _ _ e
theorem QT:∀{ts:List Str}{us:List Value},Vals (ts.map V.str) us→∃l:List (Str×Tok),strValues l=us∧l.map (·.1)=ts
 | [],_,h=>by cases h;exact⟨[],rfl,rfl⟩
 | x::ts,_,h=>by
  rw[Az] at h;cases h with
  | cons r h=> obtain⟨t,rfl⟩:=r;obtain⟨l,h1,h2⟩:=QT h;exact⟨(x,t)::l,by rw[←h1];rfl,by rw[←h2];rfl⟩
theorem Sr:∀{ts:List Str}{us:List Value},Vals (ts.map V.str) us→StrsAre us ts
 | [],_,h=>by cases h;exact .nil
 | x::ts,_,h=>by
  rw[Az] at h;cases h with
  | cons r h=> obtain⟨t,rfl⟩:=r;exact .cons _ _ (Sr h)
theorem N6:∀{us:List Value}{ts:List Str},StrsAre us ts→Vals (ts.map V.str) us
 | _,_,.nil=> .nil
 | _,_,.cons n t h=> .cons ⟨t,rfl⟩ (N6 h)
def TJ(K:Ai):V→List V→Hp→VK→Prop:=λx vs H Q=>∃(y:Str)(a:Addr)(ts:List Str),x= .str y∧vs=[.ref a]∧SqL K H a (ts.map V.str)∧JoinOk y ts=true∧Q (.str (Txt.join y ts)) H
theorem Ue:NG X "str.join" (TJ X.K):=by intro pins s σ H x vs v us Q I rx rv h;obtain⟨y,a,ts,rfl,rfl,hq,hok,q⟩:=h;obtain⟨t,rfl⟩:=rx;obtain⟨u,rfl,ru⟩:=rv.one;cases ru;obtain⟨its,r,ht,hz⟩:=I.list hq;obtain⟨l,rfl,rfl⟩:=QT r;unfold JoinOk at hok;rw[DO] at hok;refine call_meets F.slot_str_join (typeIs_str _ _ _) F.entry_str_join (F.args_str_join_2 _ _) (meets_str_join_list y t a l hok) ⟨ht.isList,post_join l ⟨joinFit_length hok,λt' k=>?_⟩⟩;exact⟨.str _,H,I.kept (t':=k) λb o e=>e,⟨t',rfl⟩,q⟩
def UO(K:Ai):List V→Hp→VK→Prop:=λxs H Q=>∃(a:Addr)(ns:List Str),xs=[.ref a]∧SqL K H a (ns.map V.str)∧ns.length<64∧
 ∀(p:Addr)(ms:List Str),ms.Perm ns→sortedS ms=true→H p=none→Q (.ref p) (Hh H p (.lst (ms.map V.str)))
theorem Xw:J5 X (.builtin "sorted") (UO X.K):=by
 intro pins s σ H xs us Q I r h;obtain⟨a,ns,rfl,hq,h64,q⟩:=h;obtain⟨u,rfl,rx⟩:=Jy r;cases rx;obtain⟨its,rv,ht,hz⟩:=I.list hq;have hl:=rv.length;rw[Ab] at hl;refine sorted_strs ht.isList (Sr rv) (by omega) λout ns' a1 a2 a3=>?_;obtain⟨e,he⟩:=sortedAll_at s.heap its out;have hn:H (s.heap.objs.size+1)=none:=I.hok.fresh (De _);have hlen:ns'.length=ns.length:=a2.length_eq;refine⟨.ref (s.heap.objs.size+1),Hh H (s.heap.objs.size+1) (.lst (ns'.map V.str)),I.laid (t':=s.toks) (λb o e=>sortedAll_old e) (De _) ?_,rfl,q _ ns' a2 a3 hn⟩;have hz':ns.length≤Av:=by rw[Ab] at hz;exact hz
 exact⟨by rw[Ab];omega,out.toList,e,N6 a1,by simpa [seqObj] using he⟩
theorem Tv(t:Cr)(n:Nat):(t.orStandIn n).led=t.led:=by unfold SetTable.orStandIn;split<;>rfl
theorem Vk(t:Cr)(n:Nat)(h:t.plain=false):(t.orStandIn n).plain=false:=by
 unfold SetTable.orStandIn
 split
 · exact h
 · rfl
theorem UJ(t:Cr)(es:Array (Int×Value))(h:Int)(x:Value):(layNew t es h x).2.1.led=t.led:=by
 unfold layNew
 split
 · exact(Tv _ _).trans rfl
 · rfl
theorem VF(t:Cr)(es:Array (Int×Value))(h:Int)(x:Value):t.plain=false→(layNew t es h x).2.1.plain=false:=by
 intro hp;unfold layNew
 split
 · exact Vk _ _ hp
 · rfl
theorem QA{mask finger moves:Nat}{led plain:Bool}{hs:Array Int}{t:Cr}{o:Array Nat}(h:SetTable.laid mask finger moves led plain hs=some (t,o)):t.led=led∧t.plain=plain:=by
 unfold SetTable.laid at h;cases h1:SetTable.layClean mask hs with
 | none=>rw[h1] at h;cases h
 | some ow=> rw[h1] at h;simp only[Option.bind_eq_bind,Option.bind_some,Option.pure_def,Option.some.injEq,Prod.mk.injEq] at h;rw[←h.1];exact⟨rfl,rfl⟩
theorem Wu(t:Cr)(es:Array (Int×Value))(n:Nat):(relayAll t es n).2.1.led=t.led:=by
 unfold relayAll
 split
 · rename_i t' o h;dsimp only
   split
   · exact(QA h).1
   · rfl
 · rfl
theorem Xm(t:Cr)(es:Array (Int×Value))(n:Nat)(hp:t.plain=false):(relayAll t es n).2.1.plain=false:=by
 unfold relayAll
 split
 · rename_i t' o h;dsimp only
   split
   · rw[←hp];exact(QA h).2
   · rfl
 · rfl
def HQ(w:World):Bool:=w.params.followText "set-order"
structure TxSet(prog:Bt)(w:World)(h:Heap)(a:Addr)(ks:List Str):Prop where
 at':∃(es:Array (Int×Value))(ep:Nat)(t:Cr),h.get? a=some {cls:= .type "set",dict:=none,data:= .set es ep t}∧ElemsOf (strKind prog w) es.toList∧
  StrsAre (es.toList.map (·.2)) ks∧t.fits es.size=true∧t.led=!HQ w∧(es.size=0∨t.plain=false)
 nodup:ks.Nodup
 few:ks.length<scanBound
theorem N9:∀{vs:List Value}{ks:List Str},StrsAre vs ks→vs.length=ks.length
 | _,_,.nil=>rfl
 | _,_,.cons _ _ h=>by rw[AN,AN,N9 h]
theorem SO:∀{vs us:List Value}{ks js:List Str},StrsAre vs ks→StrsAre us js→StrsAre (vs++us) (ks++js)
 | _,_,_,_,.nil,h=>h
 | _,_,_,_,.cons _ _ h',h=> .cons _ _ (SO h' h)
theorem OO{vs:List Value}(p:us.Perm vs):∀{ks:List Str},StrsAre vs ks→∃js,StrsAre us js∧js.Perm ks:=by
 induction p with
 | nil=>intro ks h;exact⟨ks,h,.refl _⟩
 | cons x p ih=>
  intro ks h;cases h with
  | cons y t h=> obtain⟨js,h1,h2⟩:=ih h;exact⟨y::js,.cons y t h1,h2.cons _⟩
 | swap x y l=>
  intro ks h;cases h with
  | cons y t h=>
   cases h with
   | cons y2 t2 h=>exact⟨y2::y::_,.cons _ _ (.cons _ _ h),.swap _ _ _⟩
 | trans p1 p2 ih1 ih2=> intro ks h;obtain⟨js,h1,h2⟩:=ih2 h;obtain⟨is,h3,h4⟩:=ih1 h1;exact⟨is,h3,h4.trans h2⟩
theorem OT:∀{vs:List Value}{ks:List Str},StrsAre vs ks→∀k,k∈ks↔∃t,Value.str k t∈vs
 | _,_,.nil,k=>by simp
 | _,_,.cons y t h,k=>by
  rw[Al,OT h k];constructor
  · rintro(rfl | ⟨u,hu⟩)
    · exact⟨t,.head _⟩
    · exact⟨u,.tail _ hu⟩
  · rintro⟨u,hu⟩;cases hu with
    | head=>exact .inl rfl
    | tail _ hu=>exact .inr ⟨u,hu⟩
theorem NZ(k:Str)(t:Tok):(strKind prog w).is k (.str k t)=true:=by show EB k (.str k t)=true;simp[EB]
theorem Ra(h:Heap)(a:Addr)(es es':Array (Int×Value))(ep:Nat)(t t':Cr)(ho:h.get? a=some {cls:= .type "set",dict:=none,data:= .set es ep t}):
 (h.update a (Obj.putSet es' t')).get? a=some {cls:= .type "set",dict:=none,data:= .set es' (ep+1) t'}:=by
 have:=Ba (Obj.putSet es' t') ho (by rw[putSet_of es' t' (o:={cls:= .type "set",dict:=none,data:= .set es ep t}) rfl];rfl);rw[putSet_of es' t' (o:={cls:= .type "set",dict:=none,data:= .set es ep t}) rfl] at this;exact this
theorem VY{ks:List Str}{k:Str}{tk:Tok}{Q:Bool→Shared→Prop}(hS:TxSet prog w s.heap a ks)(hroom:ks.length+1<scanBound)
 (h:∀h' ks',Bp a s.heap h'→TxSet prog w h' a ks'→ks'.length≤ks.length+1→(∀x,x∈ks'↔x∈ks∨x=k)→∀b,Q b {s with heap:=h'}):
 wpAny (model prog w) A (setAddHashed a (.str k tk) ((strKind prog w).hash k)) Q E s:=by
 obtain⟨⟨es,ep,t,ho,hel,hks,hf,hled,hpl⟩,hnd,hfew⟩:=hS;have hsz:es.size=ks.length:=by rw[←N9 hks,Ab,AJ]
 have hb:es.size<scanBound:=by rw[hsz];exact hfew
 have hkey:(strKind prog w).is k (.str k tk)=true:=NZ k tk;unfold setAddHashed setAddHashedIn;refine Bh (Aa (Cg ho rfl hf ?_));dsimp only;rw[byScan_of (knd:=strKind prog w) rfl hb hel];simp only[↓reduceIte];unfold setAddByScan;refine Aa ?_;refine Aa (BN ?_);refine Aa (wpAny_setScan_of (knd:=strKind prog w) hkey ho rfl hf hel ?_);have isk:∀e∈es.toList,(strKind prog w).is k e.2=true→k∈ks:=λe he q=>by obtain⟨t',q'⟩:=Ep q;exact(OT hks k).mpr ⟨t',by rw[←q'];exact AC he⟩
 cases hr:List.findIdx? (λe=>(strKind prog w).is k e.2) es.toList with
 | some j=> dsimp only;obtain⟨hj,hpj,_⟩:=List.findIdx?_eq_some_iff_getElem.mp hr;have hk:k∈ks:=isk _ (Dv hj) hpj;refine Ac (Ac ?_);exact h s.heap ks (Heap.SameBut.refl a s.heap) ⟨⟨es,ep,t,ho,hel,hks,hf,hled,hpl⟩,hnd,hfew⟩ (De _) (λx=>⟨.inl,λq=>q.elim id λe=>e ▸ hk⟩) _
 | none=>
  dsimp only;have hk:k ∉ ks:=λhm=>by obtain⟨t',ht⟩:=(OT hks k).mp hm;obtain⟨e,he,q⟩:=AM.mp ht;have:=List.findIdx?_eq_none_iff.mp hr e he;rw[q,NZ] at this;cases this
  have hgw:∀(b:Bool){s₁:Shared}{Q':Unit→Shared→Prop},Q' () s₁→wpAny (model prog w) A (match b with | true=>rule "set.scan.the-table-gave-way" | false=>pure ()) Q' E s₁:=
   λb s₁ Q' hq=>by cases b<;>first | exact Ac hq | exact BN hq
  have hperm:=layNew_perm t es ((strKind prog w).hash k) (.str k tk);have hfits:=layNew_fits t es ((strKind prog w).hash k) (.str k tk);have hl1:=UJ t es ((strKind prog w).hash k) (.str k tk);have hp1:=VF t es ((strKind prog w).hash k) (.str k tk);generalize hL:layNew t es ((strKind prog w).hash k) (.str k tk)=L at hperm hfits hl1 hp1 ⊢;obtain⟨es1,t1,wasDummy,gave⟩:=L;dsimp only at hperm hfits hl1 hp1 ⊢;rw[Array.toList_push] at hperm;have hel1:ElemsOf (strKind prog w) es1.toList:=(hel.push hkey rfl).perm hperm;have h0:StrsAre ((es.toList++[((strKind prog w).hash k,Value.str k tk)]).map (·.2)) (ks++[k]):=by rw[Ah];exact SO hks (.cons k tk .nil)
  obtain⟨k1,hk1,hkp1⟩:=OO (hperm.map (·.2)) h0;have hsz1:es1.size=ks.length+1:=by rw[←AJ,hperm.length_eq,Au,AJ,hsz];rfl
  have nd0:(ks++[k]).Nodup:=by rw[List.nodup_append];exact⟨hnd,by simp,λx hx y hy=>by rw[Ae] at hy;subst hy;exact λe=>hk (e ▸ hx)⟩
  have fin:∀(h':Heap)(es2:Array (Int×Value))(ep2:Nat)(t2:Cr),Bp a s.heap h'→h'.get? a=some {cls:= .type "set",dict:=none,data:= .set es2 ep2 t2}→es2.toList.Perm es1.toList→t2.fits es2.size=true→
   t2.led=t.led→t2.plain=false→∀b,Q b {s with heap:=h'}:=λh' es2 ep2 t2 sb ho2 p2 f2 l2 pl2 b=>by
   obtain⟨k2,hk2,hkp2⟩:=OO (p2.map (·.2)) hk1;have hp:k2.Perm (ks++[k]):=hkp2.trans hkp1;have hlen:k2.length=ks.length+1:=by rw[hp.length_eq,Au];rfl
   refine h h' k2 sb ⟨⟨es2,ep2,t2,ho2,hel1.perm p2,hk2,f2,l2.trans hled,.inr pl2⟩,hp.nodup_iff.mpr nd0,by omega⟩ (by omega) (λx=>?_) b;rw[hp.mem_iff,As,Ae]
  refine Aa (hgw _ ?_);have tail:∀(t2:Cr),t2.fits es1.size=true→t2.led=t.led→t2.plain=false→∀{R:Option Bool→Shared→Prop},(∀h',(∀b,Q b {s with heap:=h'})→R (some true) {s with heap:=h'})→
   wpAny (model prog w) A (do
    storeSet a es1 t2
    if(!wasDummy && t2.tooFull)=true then do
        (match(relayAll t2 es1 (CL es1.size)).2.2 with | true=>rule "set.scan.the-table-gave-way" | false=>pure ())
        storeSet a (relayAll t2 es1 (CL es1.size)).1 (relayAll t2 es1 (CL es1.size)).2.1
        pure (some true)
     else pure (some true)) R E s:=by
   intro t2 f2 l2 pl2 R hR;refine Aa (wpAny_storeSet_of ho rfl ?_ (fits_of_scanBound (by omega)));have ho1:=Ra s.heap a es es1 ep t t2 ho;have sb1:=AZ s.heap a (Obj.putSet es1 t2)
   split
   · have hp:=relayAll_perm t2 es1 (CL es1.size);have hfr:=relayAll_fits t2 es1 (CL es1.size);have hl2:=Wu t2 es1 (CL es1.size);have hp2:=Xm t2 es1 (CL es1.size) pl2;generalize hRl:relayAll t2 es1 (CL es1.size)=Rl at hp hfr hl2 hp2 ⊢;obtain⟨es2,t3,gave2⟩:=Rl;dsimp only at hp hfr hl2 hp2 ⊢;have hs2:es2.size=es1.size:=by rw[←AJ,hp.length_eq,AJ]
     refine Aa (hgw _ ?_);refine Aa (wpAny_storeSet_of ho1 rfl ?_ (fits_of_scanBound (by omega)));exact Ac (hR _ (fin _ es2 _ t3 (sb1.trans (AZ _ a _)) (Ra _ a es1 es2 (ep+1) t2 t3 ho1) hp hfr (hl2.trans l2) hp2))
   · exact Ac (hR _ (fin _ es1 _ t2 sb1 ho1 (.refl _) f2 l2 pl2))
  split
  · refine Aa ?_;rw[hashByValue_scannable 8 (x:= .str k tk) rfl];refine Ac ?_;exact tail {t1 with plain:=false} (SetTable.fits_plain_off hfits) hl1 rfl λh' q=>Ac (q _)
  · rename_i hnp;refine Aa (Ac ?_);simp only[↓reduceIte];exact tail t1 hfits hl1 (by simpa using hnp) λh' q=>Ac (q _)
theorem TxSet.kept{h':Heap}{ks:List Str}(T:TxSet prog w h a ks)(k:∀o,h.get? a=some o→h'.get? a=some o):TxSet prog w h' a ks:=by obtain⟨⟨es,ep,t,ho,r⟩,b,c⟩:=T;exact⟨⟨es,ep,t,k _ ho,r⟩,b,c⟩
section
variable{R:Result→Shared→Prop}{I:Addr}{fp wr:List Addr}{G:Array GenState→Array GenState→Prop}{P:Nat→Value→Prop}{St:Nat→Shared→Prop}
end
theorem WX(e:h.get? a=some {cls:= .type "set",dict:=none,data:= .set #[] 0 (.fresh 0 0 (!HQ w))}):TxSet prog w h a []:=
 ⟨⟨#[],0,_,e,λe he=>by simp at he,.nil,rfl,rfl,.inl rfl⟩,List.nodup_nil,by decide⟩
theorem WC{M:Model}{A:Cy}{E:Value→Shared→Prop}{src:Source}{Q:Nat→Shared→Prop}(hn:0<n)(h:∀i d',i<n→Q i {s with drawn:=d'}):
 wpAny M A (choose src n) Q E s:=λΓ p hΓ=>by
 show Sem.wp M Γ (.choose src n .pure) _ _ p s;rw[Sem.wp_choose];exact⟨by omega,h _ _ (Nat.mod_lt _ hn)⟩
theorem O3{α:Type}:∀{l:List α}{i:Nat}{x:α},l[i]?=some x→(x::l.eraseIdx i).Perm l
 | [],i,x,h=>by simp at h
 | y::l,0,x,h=>by simp at h;subst h;exact .refl _
 | y::l,i+1,x,h=>by rw[List.getElem?_cons_succ] at h;rw[List.eraseIdx_cons_succ];exact(List.Perm.swap _ _ _).trans ((O3 h).cons _)
theorem RJ{M:Model}{A:Cy}{E:Value→Shared→Prop}{α:Type}:∀(n:Nat)(xs:List α)(s:Shared){Q:List α→Shared→Prop},xs.length≤n→(∀ys d',ys.Perm xs→Q ys {s with drawn:=d'})→
 wpAny M A (drawOrder n xs) Q E s
 | 0,xs,s,Q,hn,h=>by have:xs=[]:=Cu.mp (Nat.le_zero.mp hn);subst this;exact Ac (h [] s.drawn (.refl _))
 | n+1,[],s,Q,hn,h=>Ac (h [] s.drawn (.refl _))
 | n+1,x::xs,s,Q,hn,h=>by
  show wpAny M A (choose .order (x::xs).length>>=_) Q E s;refine Aa (WC (by simp) λi d1 hi=>?_);have hx:(x::xs)[i]?=some (x::xs)[i]:=Aq hi;rw[hx];show wpAny M A (drawOrder n ((x::xs).eraseIdx i)>>=_) Q E _;have hl:((x::xs).eraseIdx i).length≤n:=by rw[Dx,if_pos hi];simp at hn ⊢;omega
  refine Aa (RJ n _ _ hl λys d2 hp=>Ac ?_);exact h _ d2 ((hp.cons _).trans (O3 hx))
theorem QZ{α:Type}(next:Nat→Nat):∀(n k:Nat)(left:List α)(out:Array α),left.length≤n→((pickOrder.go next n k left out).toList).Perm (out.toList++left)
 | 0,k,left,out,h=>by have:left=[]:=Cu.mp (Nat.le_zero.mp h);subst this;simp[pickOrder.go]
 | n+1,k,left,out,h=>by
  unfold pickOrder.go
  split
  · rename_i x hx;have hlt:next k%left.length<left.length:=(An.mp hx).1
    refine(QZ next n (k+1) _ _ ?_).trans ?_
    · rw[Dx,if_pos hlt];omega
    · rw[Array.toList_push,Bn];exact List.Perm.append_left _ (O3 hx)
  · rename_i hx;cases left with
    | nil=>simp
    | cons y l=>
     have:next k%(y::l).length<(y::l).length:=Nat.mod_lt _ (by simp)
     rw[Aq this] at hx;cases hx
theorem R_{α:Type}(next:Nat→Nat)(xs:Array α):((pickOrder next xs).toList).Perm xs.toList:=by
 have:=QZ next xs.size 0 xs.toList #[] (by simp)
 simpa [pickOrder] using this
theorem Xq(a:Addr):setDrawn a=(do
 let(es,_,t) ←setState a
 let byText ←setsByText
 return !byText && (!t.plain && decide (es.size>1))):=rfl
theorem Nk(a:Addr)(slot given epochThen:Nat):setNext a slot given epochThen=(do
 let(es,epoch,t) ←setState a
 if ←setsByText then
  if epoch !=epochThen then unsupported "set_iterator.__next__:elements-changed"
  return ((←setWalk a)[given]?).map λe=>(e.2,slot)
 if(!t.plain && decide (es.size>1)) then unsupported "set_iterator.__next__:the-table-is-plain-no-more"
 (do if !t.led && !es.isEmpty then unsupported "set:maker-not-led":Sem Unit)
 let i:=Du t.place slot
 return match es[i]?,t.place[i]? with
  | some (_,x),some j=>some (x,j+1)
  | _,_=>none):=rfl
namespace FS
theorem entry_set_iter:entryFor table "set.__iter__"=some Builtin.«frozenset.__iter__»:=entryFor_alias (id':="frozenset.__iter__") (by kernel_rfl) rfl (by decide+kernel) (by kernel_rfl)
theorem slot_si_next:Slot "set_iterator" "__next__" "set_iterator.__next__":=
 .of (owner:="set_iterator") (n:="__next__") (by rw[typeLookup_type,builtinLookup_eq_fast];kernel_rfl) (by decide+kernel) (by decide+kernel) (by decide+kernel)
  (by first | exact .inl (by decide+kernel) | exact .inr (by decide+kernel)) (by rw[isSubtype_type];kernel_rfl)
theorem entry_si_next:entryFor table "set_iterator.__next__"=some Builtin.«set_iterator.__next__»:=entryFor_of_tree (by kernel_rfl)
theorem args_si_next(a:Value):argsOk "set_iterator.__next__" ⟨[a],[]⟩:=by unfold argsOk;kernel_rfl
theorem slot_si_iter:Slot "set_iterator" "__iter__" "set_iterator.__iter__":=
 .of (owner:="set_iterator") (n:="__iter__") (by rw[typeLookup_type,builtinLookup_eq_fast];kernel_rfl) (by decide+kernel) (by decide+kernel) (by decide+kernel)
  (by first | exact .inl (by decide+kernel) | exact .inr (by decide+kernel)) (by rw[isSubtype_type];kernel_rfl)
theorem entry_si_iter:entryFor table "set_iterator.__iter__"=some Builtin.«dict_keyiterator.__iter__»:=
 entryFor_alias (id':="dict_keyiterator.__iter__") (by kernel_rfl) rfl (by decide+kernel) (by kernel_rfl)
theorem args_si_iter(a:Value):argsOk "set_iterator.__iter__" ⟨[a],[]⟩:=by unfold argsOk;kernel_rfl
end FS
abbrev Mc(h:Heap)(I a:Addr)(first:Value)(i n ep:Nat):Prop:=
 h.get? I=some {cls:= .type "set_iterator",dict:=none,data:= .fields #[first,.int i 0,.ref a,.int n 0,.int ep 0]}
inductive SOrd(w:World)(a:Addr)(es:Array (Int×Value))(ep:Nat)(t:Cr):(Nat→Value)→List Value→List (Addr×Obj)→Prop
 | drawn (T:Addr) (places:List Nat) (h0:HQ w=false) (hp:places.Perm (Bf es.size)) (h2:1<es.size):
  SOrd w a es ep t (λ_=> .ref T) (places.filterMap λp=>(es[p]?).map (·.2)) [(T,{cls:= .type "tuple",data:= .seq (places.map λ(i:Nat)=>rawInt i).toArray})]
 | text (h0:HQ w=true):SOrd w a es ep t (λ_=>rawInt 0) ((pickOrder (w.params.setOrder a ep) es).toList.map (·.2)) []
 | few (h0:HQ w=false) (h2:es.size≤1):SOrd w a es ep t (λi=>rawInt (if i=0 then 0 else t.place.getD 0 0+1)) (es.toList.map (·.2)) []
theorem UX(es:Array (Int×Value)):((Bf es.size).filterMap λp=>(es[p]?).map (·.2))=es.toList.map (·.2):=by have:=filterMap_getElem?_range es;rw[←this,List.map_filterMap]
theorem SOrd.perm{es:Array (Int×Value)}{ep:Nat}{t:Cr}{f:Nat→Value}{vs:List Value}{ob:List (Addr×Obj)}(h:SOrd w a es ep t f vs ob):vs.Perm (es.toList.map (·.2)):=by
 cases h with
 | drawn T places h0 hp h2=>rw[←UX];exact hp.filterMap _
 | text h0=>exact(R_ _ _).map _
 | few h0 h2=>exact .refl _
theorem Lh{Q:Bool→Shared→Prop}(h:Q (HQ w) s):wpAny (model prog w) A setsByText Q E s:=by unfold setsByText;exact Aa (Dk (Ac h))
theorem VC{es:Array (Int×Value)}{ep:Nat}{t:Cr}{Q:Value→Shared→Prop}(ho:s.heap.get? a=some {cls:= .type "set",dict:=none,data:= .set es ep t})
 (hf:t.fits es.size=true) (hp:es.size=0∨t.plain=false) (hz:es.size≤Av)
 (hQ:∀h' d' I f vs ob,SOrd w a es ep t f vs ob→s.heap.objs.size≤I→Mc h' I a (f 0) 0 es.size ep→(∀p∈ob,h'.get? p.1=some p.2∧s.heap.objs.size≤p.1∧p.1≠I)→(∀b o,s.heap.get? b=some o→h'.get? b=some o)→
  I<h'.objs.size→(∀p∈ob,p.1<h'.objs.size)→Q (.ref I) {s with heap:=h',drawn:=d'}):
 wpAny (model prog w) A (pyIter (.ref a)) Q E s:=by
 have hT:s.TypeIs (.ref a) "set":=⟨_,ho,rfl⟩;refine wpAny_pyIter_slot hT FC (AY FC hT FS.entry_set_iter ?_ (PySem.F.args_set_iter_1 _));unfold Builtin.«frozenset.__iter__» Builtin.Frozenset.slot0 Builtin.Frozenset.sizeOf;refine Aa (Aa (m:=slotArgs _ _ _) (Ac (Ac ?_)));refine Aa (Aa (Es ho rfl hf (Ac ?_)));dsimp only;rw[Xq];refine Aa (Aa (Cg ho rfl hf (Aa (Lh (Ac ?_)))));by_cases hd:(!HQ w && (!t.plain && decide (es.size>1)))=true
 · rw[if_pos hd];have hd':HQ w=false∧1<es.size:=by
    simp only[Ay,DO,decide_eq_true_eq] at hd;exact⟨hd.1,hd.2.2⟩
   refine Aa (RJ _ _ _ (by simp) λys d' hy=>?_);refine Aa (FB ?_ (by rw[Ab,hy.length_eq,CB];exact hz));have ho2:(s.heap.push {cls:= .type "tuple",data:= .seq (ys.map λ(i:Nat)=>rawInt i).toArray}).get? a=some {cls:= .type "set",dict:=none,data:= .set es ep t}:=Ad _ ho;refine Aa (wpAny_setEpoch_of (s:={s with drawn:=d',heap:=s.heap.push {cls:= .type "tuple",data:= .seq (ys.map λ(i:Nat)=>rawInt i).toArray}}) ho2 rfl hf ?_)
   refine Aa (AR (Ac ⟨_,rfl,"set_iterator",_,⟨_,Ao _ rfl,rfl⟩,FS.slot_si_next.lookup,?_⟩));refine hQ _ d' _ _ _ _ (.drawn s.heap.objs.size ys hd'.1 hy hd'.2) ?_ (Ao _ rfl) (λp hp=>?_) (λb o e=>Ad _ (Ad _ e)) ?_ (λp hp=>?_)
   · rw[Bk];exact De _
   · rw[Ae] at hp;subst hp;exact⟨Ad _ (Ao _ rfl),Ag _,by rw[Bk];exact Ar (B_ _)⟩
   · simp only[Bk];omega
   · rw[Ae] at hp;subst hp;show s.heap.objs.size<_;simp only[Bk];omega
 · rw[if_neg hd];refine Aa (Ac ?_);refine Aa (wpAny_setEpoch_of ho rfl hf ?_);refine Aa (AR (Ac ⟨_,rfl,"set_iterator",_,⟨_,Ao _ rfl,rfl⟩,FS.slot_si_next.lookup,?_⟩));cases hb:HQ w with
   | true=> exact hQ _ s.drawn _ _ _ _ (.text hb) (Ag _) (Ao _ rfl) (λp hp=>nomatch hp) (λb o e=>Ad _ e) (by rw[Bk];exact B_ _) (λp hp=>nomatch hp)
   | false=>
    refine hQ _ s.drawn _ _ _ _ (.few hb ?_) (Ag _) (Ao _ rfl) (λp hp=>nomatch hp) (λb o e=>Ad _ e) (by rw[Bk];exact B_ _) (λp hp=>nomatch hp);rcases hp with h | h
    · omega
    · simp[hb,h] at hd;exact hd
def NF(w:World)(I a:Addr)(es:Array (Int×Value))(ep:Nat)(t:Cr)(f:Nat→Value)(ob:List (Addr×Obj))(i:Nat)(h:Heap):Prop:=
 Mc h I a (f i) i es.size ep∧h.get? a=some {cls:= .type "set",dict:=none,data:= .set es ep t}∧∀p∈ob,h.get? p.1=some p.2
theorem R8(p:Nat):Du #[p] 0=0∧Du #[p] (p+1)=1:=by
 constructor
 · simp[Du,SetTable.below.go]
 · simp[Du,SetTable.below.go]
theorem LI{I:Addr}{first x:Value}{ep k:Nat}(hi:Mc h I a first i n ep)(f:Array Value→Array Value):
 (h.update I (DW f)).get? I=some {cls:= .type "set_iterator",dict:=none,data:= .fields (f #[first,.int i 0,.ref a,.int n 0,.int ep 0])}:=by
 have:=Ba (DW f) hi rfl;exact this
set_option maxHeartbeats 1000000 in
theorem Wn{I a:Addr}{es:Array (Int×Value)}{ep:Nat}{t:Cr}{f:Nat→Value}{vs:List Value}{ob:List (Addr×Obj)}{i:Nat}{v:Value}{Q:Option Value→Shared→Prop}
 (hO:SOrd w a es ep t f vs ob) (hf:t.fits es.size=true) (hl:t.led=!HQ w) (hne:a≠I) (hob:∀p∈ob,p.1≠I) (hS:NF w I a es ep t f ob i s.heap) (hv:vs[i]?=some v)
 (hQ:∀h',NF w I a es ep t f ob (i+1) h'→Bp I s.heap h'→Q (some v) {s with heap:=h'}):
 wpAny (model prog w) A (pyNext (.ref I)) Q E s:=by
 obtain⟨hi,ha,hbs⟩:=hS;have hT:s.TypeIs (.ref I) "set_iterator":=⟨_,hi,rfl⟩;unfold pyNext;refine Aa (Dz (AW (name:=Cc "__next__") hT FS.slot_si_next
  (AY FS.slot_si_next hT FS.entry_si_next ?_ (FS.args_si_next _))))
 unfold Builtin.«set_iterator.__next__»;refine Aa (m:=slotArgs _ _ _) (Ac ?_);dsimp only;refine Aa (wpAny_fieldsOf hi rfl ?_);dsimp only;refine Aa (Es ha rfl hf ?_);rw[if_neg (by simp)];have hil:i<vs.length:=(An.mp hv).1;have fin:∀(first:Value)(h':Heap),Bp I s.heap h'→Mc h' I a (f (i+1)) (i+1) es.size ep→Q (some v) {s with heap:=h'}:=λfirst h' sb hi'=> hQ h' ⟨hi',by rw[sb.2 a hne];exact ha,λp hp=>by rw[sb.2 p.1 (hob p hp)];exact hbs p hp⟩ sb
 cases hO with
 | drawn T places h0 hp h2=>
  dsimp only;have hTt:=hbs _ (Ae.mpr rfl);refine Aa (A_ hTt rfl ?_);have hpl:places.length=es.size:=by rw[hp.length_eq,CB]
  have hall:∀p∈places,p<es.size:=λp hm=>by simpa using hp.mem_iff.mp hm
  have hfm:∀(l:List Nat),(∀p∈l,p<es.size)→(l.filterMap λp=>(es[p]?).map (·.2))=l.map λp=>(es.getD p (0,.none)).2:=by
   intro l
   induction l with
   | nil=>intro _;rfl
   | cons q l ih=> intro hq;have hq0:q<es.size:=hq q (by simp);have h1:es[q]?=some es[q]:=Cj hq0;rw[D3,h1,Az,←ih λp hm=>hq p (by simp[hm])];simp[Array.getD,hq0]
  rw[hfm places hall,Af] at hv;cases hpi:places[i]? with
  | none=>rw[hpi] at hv;cases hv
  | some pl=>
   rw[hpi] at hv;have hlt:pl<es.size:=hall pl (Ak hpi);have hvv:v=es[pl].2:=by have:(es.getD pl (0,.none)).2=v:=AB hv;rw[←this];simp[Array.getD,hlt]
   have hpi':(places.map λ(i:Nat)=>rawInt i).toArray[i]?=some (.int pl 0):=by rw[FD,Af,hpi];rfl
   show wpAny _ _ (match(places.map λ(i:Nat)=>rawInt i).toArray[(i:Int).toNat]? with | some (.int place _)=>_ | some _=>_ | none=>_) _ _ _
   rw[Bc,hpi'];dsimp only;unfold setNextDrawn;refine Aa (Aa (Cg ha rfl hf ?_));dsimp only;rw[if_neg (by simp)];rw[Bc,Cj hlt];dsimp only;refine Ac ?_;refine Aa (BG hi rfl (by simp) ?_);refine Ac ⟨_,rfl,Ac ?_⟩;rw[←hvv];exact fin v _ (AZ ..) (LI (x:=v) (k:=0) hi _)
 | text h0=>
  show wpAny _ _ (setNext a 0 (i:Int).toNat (ep:Int).toNat>>=_) _ _ _;rw[Nk,Bc,Bc];refine Aa (Aa (Cg ha rfl hf (Aa (Lh ?_))));rw[if_pos h0];dsimp only;rw[if_neg (by simp)];unfold setWalk;refine Aa (Aa (Cg ha rfl hf (Aa (Lh ?_))));rw[if_pos h0];refine Aa (Dk (Ac (Ac ?_)));rw[Af,C1] at hv;cases hpk:(pickOrder (w.params.setOrder a ep) es)[i]? with
  | none=>rw[hpk] at hv;cases hv
  | some e=>
   rw[hpk] at hv;show wpAny _ _ (match((pickOrder (w.params.setOrder a ep) es)[i]?).map λe=>(e.2,0) with | some (x,next)=>_ | none=>_) _ _ _
   rw[hpk];have hvv:e.2=v:=AB hv;dsimp only[Option.map];refine Aa (BG hi rfl (by simp) ?_);have hi1:=LI (x:=v) (k:=0) hi (·.setIfInBounds 0 (rawInt (0:Nat)));refine Aa (BG (s:={s with heap:=s.heap.update I (DW (·.setIfInBounds 0 (rawInt (0:Nat))))}) hi1 rfl (by simp) ?_)
   refine Ac ⟨_,rfl,Ac ?_⟩;rw[hvv];refine fin v _ ((AZ ..).trans (AZ ..)) ?_;exact LI (x:=v) (k:=0) (i:=i) (first:=rawInt 0) (n:=es.size) (ep:=ep) (a:=a) (by exact hi1) _
 | few h0 h2=>
  have hi0:i=0:=by rw[Ab,AJ] at hil;omega
  subst hi0;have hsz:es.size=1:=by rw[Ab,AJ] at hil;omega
  show wpAny _ _ (setNext a 0 (0:Int).toNat (ep:Int).toNat>>=_) _ _ _;rw[Nk,Bc];refine Aa (Aa (Cg ha rfl hf (Aa (Lh ?_))));rw[if_neg (by rw[h0];simp)];dsimp only;rw[if_neg (by simp[hsz])];rw[hl,h0];refine Aa (m:=ite _ _ _) ?_;rw[if_neg (by simp)];refine Ac ?_;obtain⟨p,hpp⟩:∃p,t.place=#[p]:=by
   have h1:t.place.size=1:=by simp only[SetTable.fits,Ay,beq_iff_eq] at hf;rw[hf.1,hsz]
   generalize t.place=tp at h1;obtain⟨pl⟩:=tp;cases pl with
   | nil=>simp at h1
   | cons p r=>cases r with
    | nil=>exact⟨p,rfl⟩
    | cons q r=>simp at h1
  obtain⟨⟨eh,ev⟩,hes⟩:∃e,es=#[e]:=by
   obtain⟨el⟩:=es;cases el with
   | nil=>simp at hsz
   | cons p r=>cases r with
    | nil=>exact⟨p,rfl⟩
    | cons q r=>simp at hsz
  subst hes;have hvv:ev=v:=by simpa using hv
  subst hvv;rw[hpp,(R8 p).1];refine Ac ?_;show wpAny _ _ (setField (.ref I) 0 (rawInt ((p+1:Nat):Int))>>=_) _ _ _;refine Aa (BG hi rfl (by simp) ?_);have hi1:=LI (x:=ev) (k:=0) hi (·.setIfInBounds 0 (rawInt ((p+1:Nat):Int)));refine Aa (BG (s:={s with heap:=s.heap.update I (DW (·.setIfInBounds 0 (rawInt ((p+1:Nat):Int))))}) hi1 rfl (by simp) ?_)
  refine Ac ⟨_,rfl,Ac ?_⟩;refine fin ev _ ((AZ ..).trans (AZ ..)) ?_;have:=LI (x:=ev) (k:=0) (i:=0) (first:=rawInt ((p+1:Nat):Int)) (n:=1) (ep:=ep) (a:=a) (by exact hi1) (·.setIfInBounds 1 (rawInt ((0:Nat)+1:Int)))
  rw[hpp];exact this
theorem Os{h1:Heap}{I:Addr}{P:Fin→Shared→Prop}{Q:Option Value→Shared→Prop}(hh:A.handled=none)(sb:Bp I s.heap h1)(hQ:∀h',DS I s.heap h'→Q none {s with heap:=h'}):
 wpAny (model prog w) A.in1 (newExc (.type "StopIteration") []>>=λx=>raiseNew x) P
  (λe s'=>wpAny (model prog w) A (do if ←isInstance e (.type "StopIteration") then pure none else throw e) Q E s') {s with heap:=h1}:=by
 refine Aa ?_;simp only[newExc,newTuple];refine Aa (AR ?_ (by size_fits));refine Aa (m:=firstArgMember _ _) (DQ (a:=Value.none) (by first | rfl | (simp only[firstArgMember];rfl)) ?_)
 refine AR ?_ (by size_fits);simp only[raiseNew];refine Aa (wpAny_handled ?_);rw[show A.in1.handled=none from hh];refine Aa (Ac (wpAny_throw ?_));refine Aa (Dw (T:="StopIteration") (b:=true) ⟨_,Ao _ rfl,rfl⟩ isSubtype_stop ?_);exact Ac (hQ _ ((sb.extBut.push _).push _))
set_option maxHeartbeats 1000000 in
theorem UT{I a:Addr}{es:Array (Int×Value)}{ep:Nat}{t:Cr}{f:Nat→Value}{vs:List Value}{ob:List (Addr×Obj)}{Q:Option Value→Shared→Prop}(hh:A.handled=none)
 (hO:SOrd w a es ep t f vs ob) (hf:t.fits es.size=true) (hl:t.led=!HQ w) (hne:a≠I) (hob:∀p∈ob,p.1≠I) (hS:NF w I a es ep t f ob es.size s.heap)
 (hQ:∀h',DS I s.heap h'→Q none {s with heap:=h'}):
 wpAny (model prog w) A (pyNext (.ref I)) Q E s:=by
 obtain⟨hi,ha,hbs⟩:=hS;have hT:s.TypeIs (.ref I) "set_iterator":=⟨_,hi,rfl⟩;unfold pyNext;refine Aa (Dz (AW (name:=Cc "__next__") hT FS.slot_si_next
  (AY FS.slot_si_next hT FS.entry_si_next ?_ (FS.args_si_next _))))
 unfold Builtin.«set_iterator.__next__»;refine Aa (m:=slotArgs _ _ _) (Ac ?_);dsimp only;refine Aa (wpAny_fieldsOf hi rfl ?_);dsimp only;refine Aa (Es ha rfl hf ?_);rw[if_neg (by simp)];cases hO with
 | drawn T places h0 hp h2=>
  dsimp only;have hTt:=hbs _ (Ae.mpr rfl);refine Aa (A_ hTt rfl ?_);have hpl:places.length=es.size:=by rw[hp.length_eq,CB]
  have hpi':(places.map λ(i:Nat)=>rawInt i).toArray[es.size]?=none:=by rw[FD,Af,Eb (by omega)];rfl
  show wpAny _ _ (match(places.map λ(i:Nat)=>rawInt i).toArray[(es.size:Int).toNat]? with | some (.int place _)=>_ | some _=>_ | none=>_) _ _ _
  rw[Bc,hpi'];dsimp only;refine Aa (BG hi rfl (by simp) ?_);have hi1:=LI (x:= .none) (k:=0) hi (·.setIfInBounds 0 (rawInt 0));refine Aa (BG (s:={s with heap:=s.heap.update I (DW (·.setIfInBounds 0 (rawInt 0)))}) hi1 rfl (by simp) ?_)
  exact Os (s:=s) (I:=I) hh ((AZ ..).trans (AZ ..)) hQ
 | text h0=>
  show wpAny _ _ (setNext a 0 (es.size:Int).toNat (ep:Int).toNat>>=_) _ _ _;rw[Nk,Bc,Bc];refine Aa (Aa (Cg ha rfl hf (Aa (Lh ?_))));rw[if_pos h0];dsimp only;rw[if_neg (by simp)];unfold setWalk;refine Aa (Aa (Cg ha rfl hf (Aa (Lh ?_))));rw[if_pos h0];refine Aa (Dk (Ac (Ac ?_)));have hpk:(pickOrder (w.params.setOrder a ep) es)[es.size]?=none:=by have h1:=(R_ (w.params.setOrder a ep) es).length_eq;rw[AJ,AJ] at h1;exact DT (by omega)
  show wpAny _ _ (match((pickOrder (w.params.setOrder a ep) es)[es.size]?).map λe=>(e.2,0) with | some (x,next)=>_ | none=>_) _ _ _
  rw[hpk];dsimp only[Option.map];refine Aa (BG hi rfl (by simp) ?_);exact Os (s:=s) (I:=I) hh (AZ ..) hQ
 | few h0 h2=>
  show wpAny _ _ (setNext a (if es.size=0 then(0:Int) else(t.place.getD 0 0:Int)+1).toNat (es.size:Int).toNat (ep:Int).toNat>>=_) _ _ _
  rw[Nk,Bc];refine Aa (Aa (Cg ha rfl hf (Aa (Lh ?_))));rw[if_neg (by rw[h0];simp)];dsimp only;rw[if_neg (by simp;intro _;omega)];rw[hl,h0];refine Aa (m:=ite _ _ _) ?_;rw[if_neg (by simp)];refine Ac ?_;have hps:t.place.size=es.size:=by simp only[SetTable.fits,Ay,beq_iff_eq] at hf;exact hf.1
  have hnone:es[Du t.place (if es.size=0 then(0:Int) else(t.place.getD 0 0:Int)+1).toNat]?=none:=by
   generalize t.place=tp at hps;obtain⟨pl⟩:=tp;cases pl with
   | nil=>
    have:es.size=0:=by simpa using hps.symm
    exact DT (by omega)
   | cons p r=>
    cases r with
    | nil=>
     have h1:es.size=1:=by simpa using hps.symm
     rw[if_neg (by omega)];have:((([p].toArray).getD 0 0:Nat):Int)+1=((p+1:Nat):Int):=rfl;rw[this,Bc,(R8 p).2];exact DT (by omega)
    | cons q r=>
     have:es.size=r.length+2:=by simpa using hps.symm
     omega
  rw[hnone];refine Ac ?_;show wpAny _ _ (setField (.ref I) 2 .none>>=_) _ _ _;refine Aa (BG hi rfl (by simp) ?_);exact Os (s:=s) (I:=I) hh (AZ ..) hQ
theorem V_{I:Addr}{first:Value}{ep:Nat}{Q:Value→Shared→Prop}(hi:Mc s.heap I a first i n ep)(h:Q (.ref I) s):wpAny (model prog w) A (pyIter (.ref I)) Q E s:=by have hT:s.TypeIs (.ref I) "set_iterator":=⟨_,hi,rfl⟩;refine wpAny_pyIter_slot hT FS.slot_si_iter (AY FS.slot_si_iter hT FS.entry_si_iter ?_ (FS.args_si_iter _));show wpAny _ _ (ret (.ref I)) _ _ s;exact Ac ⟨_,rfl,"set_iterator",_,hT,FS.slot_si_next.lookup,h⟩
theorem Xa{prog:Bt}{w:World}{I a:Addr}{es:Array (Int×Value)}{ep:Nat}{t:Cr}{f:Nat→Value}{vs:List Value}{ob:List (Addr×Obj)}(hh:A.handled=none)
 (hO:SOrd w a es ep t f vs ob) (hf:t.fits es.size=true) (hl:t.led=!HQ w) (hne:a≠I) (hob:∀p∈ob,p.1≠I):
 Walks prog w A I (I::a::ob.map (·.1)) [I] es.size (λi v=>vs[i]?=some v) (NF w I a es ep t f ob) where
 sub:=λb hb=>by simp at hb;simp[hb]
 frame:=λi h h' st hk=>⟨hk I (by simp) _ st.1,hk a (by simp) _ st.2.1,λp hp=>hk p.1 (by simp;exact .inr (.inr ⟨p.2,hp⟩)) _ (st.2.2 p hp)⟩
 item:=λi s Q E hi st hQ=>by
  have hlen:vs.length=es.size:=by rw[hO.perm.length_eq,Ab,AJ]
  refine Wn hO hf hl hne hob st (v:=vs[i]'(by omega)) (Aq (by omega)) λh' st' sb=>?_;exact hQ _ h' s.toks (Aq (by omega)) st' λb o hb e=>sb.extBut b o (λh=>hb (by simp[h])) e
 done:=λs Q E st hQ=>UT hh hO hf hl hne hob st λh' he'=>hQ h' s.toks λb o hb e=>he' b o (λh=>hb (by simp[h])) e
 self:=λ_ _ _ _ st hQ=>V_ st.1 hQ
namespace FS
theorem set_len:typeLookup (.type "set") "__len__"=pure (some (.builtin "set.__len__")):=by rw[typeLookup_type,builtinLookup_eq_fast];kernel_rfl
theorem split_set_len:splitId "set.__len__"=some ("set","__len__"):=by decide+kernel
end FS
theorem V7{Q:Bool→Shared→Prop}(hT:s.TypeIs (.ref a) "set")(h:Q false s):wpAny (model prog w) A (CS (.ref a)) Q E s:=by
 unfold CS;refine Aa (Eh hT FS.set_len ?_);dsimp only;generalize LK:("set.__len__":String)=id0;rw[show splitId id0=some ("set","__len__") from by subst LK;exact FS.split_set_len]
 subst LK;dsimp only;refine Aa (Dw (b:=true) hT sub_set_self ?_);simp only[Bool.not_true,BH,if_false];refine Aa (CP hT (Ac h))
set_option maxHeartbeats 1000000 in
theorem Xy{ks:List Str}{Q:List Value→Shared→Prop}(hh:A.handled=none)(T:TxSet prog w s.heap a ks)
 (hQ:∀h' d' tk vs js,StrsAre vs js→js.Perm ks→s.heap.objs.size<h'.objs.size→(∀b o,s.heap.get? b=some o→h'.get? b=some o)→Q vs {s with heap:=h',drawn:=d',toks:=tk}):
 wpAny (model prog w) A (collect (.ref a)) Q E s:=by
 obtain⟨⟨es,ep,t,ho,hel,hks,hf,hled,hpl⟩,hnd,hfew⟩:=T;have hsz:es.size=ks.length:=by rw[←N9 hks,Ab,AJ]
 have haS:a<s.heap.objs.size:=Am ho;unfold collect;refine Aa (wpAny_runValue (Ci E7 ?_));rw[Bv E8 _];show wpAny _ A.in1 (newList []>>=λl=>again (.builtin "list.__iadd__" ⟨[l,.ref a],[]⟩)) _ _ s;refine Aa (AR ?_);refine Ac ⟨Ce Do _,Ci Fk ?_⟩;rw[Bv Do _];generalize hh1:s.heap.push {cls:= .type "list",data:= .seq ([]:List Value).toArray}=h1;have hk1:∀b o,s.heap.get? b=some o→h1.get? b=some o:=λb o e=>by rw[←hh1];exact Ad _ e
 have hS1:h1.get? s.heap.objs.size=some {cls:= .type "list",data:= .seq ([]:List Value).toArray}:=by rw[←hh1];exact Ao _ rfl
 have hz1:s.heap.objs.size<h1.objs.size:=Am hS1;show wpAny _ A.in1 (CT (.ref s.heap.objs.size) (.ref a) (.ref s.heap.objs.size)) _ _ {s with heap:=h1}
 unfold CT;have hT1:Shared.TypeIs {s with heap:=h1} (.ref a) "set":=⟨_,hk1 _ _ ho,rfl⟩
 refine Aa (CP hT1 ?_);have e1:Cn (.ref s.heap.objs.size) (.ref a)=false:=by unfold Cn;exact beq_eq_false_iff_ne.mpr (By (Ar haS))
 rw[if_neg (by rw[e1];decide)];refine Aa (VC (s:={s with heap:=h1}) (hk1 _ _ ho) hf hpl (by rw[hsz];exact fits_of_scanBound hfew) λh2 d2 I f vs ob hO hI hi hob hk2 hI2 hob2=>?_)
 refine Aa (Bh (V7 (s:={s with heap:=h2,drawn:=d2}) ⟨_,hk2 _ _ (hk1 _ _ ho),rfl⟩ ?_))
 rw[if_pos (by decide)];refine Aa (BN ?_);have hS2:h2.get? s.heap.objs.size=some {cls:= .type "list",data:= .seq ([]:List Value).toArray}:=hk2 _ _ hS1;refine Aa ?_;show wpAny _ A.in1 (updateSeq s.heap.objs.size (·.push .none)>>=λ_=>updateSeq s.heap.objs.size (·.pop)) _ _ {s with heap:=h2,drawn:=d2}
 refine Aa (BR hS2 rfl ?_);have hS3:=Ba (BZ (·.push Value.none)) hS2 rfl;refine BR hS3 rfl ?_;have hS4:=Ba (BZ (·.pop)) hS3 rfl;have oth:∀b o,b≠s.heap.objs.size→h2.get? b=some o→((h2.update s.heap.objs.size (BZ (·.push Value.none))).update s.heap.objs.size (BZ (·.pop))).get? b=some o:=
  λb o hb e=>(AQ _ _ (By hb)).trans ((AQ _ _ (By hb)).trans e)
 have hIne:I≠s.heap.objs.size:=By (Ar (AG hz1 hI));have hane:a≠I:=Ar (AG haS (AT (AU hz1) hI));have hobne:∀p∈ob,p.1≠s.heap.objs.size:=λp hp=>By (Ar (AG hz1 (hob p hp).2.1));have W:=(Xa (prog:=prog) (A:=A.in1) (by simpa using hh) hO hf hled hane (λp hp=>(hob p hp).2.2)).toS;have hlen:vs.length=es.size:=by rw[hO.perm.length_eq,Ab,AJ]
 obtain⟨js,hjs,hjp⟩:=OO hO.perm hks;refine Ac ⟨Ce EU _,codeAny_extend_loopS W (by rw[hsz];exact fits_of_scanBound hfew) s.heap.objs.size ?_ _ es.size 0 _ _ _ rfl (Bo _)
  ⟨oth _ _ hIne hi,oth _ _ (Ar haS) (hk2 _ _ (hk1 _ _ ho)),λp hp=>oth _ _ (hobne p hp) (hob p hp).1⟩ hS4 (ItemsOf.nil _) λs' acc' c' hm hS' hacc=>?_⟩
 · intro hmem;rw[Al,Al,AM] at hmem;rcases hmem with h | h | ⟨p,hp,h⟩
   · exact hIne h.symm
   · exact Ar haS h.symm
   · exact hobne p hp h
 · show wpAny _ A (load s.heap.objs.size>>=_) _ _ s';refine Aa (wpAny_load hS' ?_);have hav:acc'.toList=vs:=by
    apply List.ext_getElem?;intro j;by_cases hj:j<es.size
    · have hj':j<acc'.size:=by rw[hacc.1];exact hj
      have h1:acc'.toList[j]?=some acc'[j]:=by rw[C1];exact Cj hj'
      rw[h1];exact(hacc.2 j _ (Cj hj')).symm
    · rw[Eb (by rw[AJ,hacc.1];omega),Eb (by omega)]
   obtain⟨h',g',d',tk',os'⟩:=s';have eg:g'=s.gens:=hm.gens;have ed:d'=d2:=hm.drawn;have eo:os'=s.os:=hm.os;subst eg;subst ed;subst eo;refine Ac ?_;rw[hav];refine hQ h' d' tk' vs js hjs hjp (Am hS') λb o e=>?_;have hb:b<s.heap.objs.size:=Am e;refine hm.heap b o ?_ (oth b o (Ar hb) (hk2 _ _ (hk1 _ _ e)));have h0:h1.objs.size≤I:=hI;simp only[Al,AF,or_false,not_or];exact⟨Ar hb,Ar (AG hb (AT (AU hz1) hI))⟩
theorem Xs{ks:List Str}{Q:Value→Shared→Prop}(hh:A.handled=none)(T:TxSet prog w s.heap a ks)(h64:ks.length<64)
 (h:∀(p:Addr)(h':Heap)(d':Drawn)(tk:Nat)(out:Array Value)(ms:List Str)(e:Nat),StrsAre out.toList ms→ms.Perm ks→sortedS ms=true→s.heap.objs.size≤p→h'.get? p=some (seqObj "list" out e)→
  (∀b o,s.heap.get? b=some o→h'.get? b=some o)→Q (.ref p) {s with heap:=h',drawn:=d',toks:=tk}):
 wpAny (model prog w) A (call (.builtin "sorted") [.ref a]) Q E s:=by
 refine EV kind_sorted plain_sorted entry_sorted (args_sorted1 _) ?_;unfold Builtin.«sorted»;refine Aa (m:=checkCount "sorted" 1 1 _) (Ac ?_);refine Aa (Xy (by simpa using hh) T λh1 d1 tk1 vs js hv hp hz hk=>?_);have hvl:vs.length=ks.length:=by rw[N9 hv,hp.length_eq]
 refine Aa (wpAny_newList ?_ (by rw[sizeLine_eq];omega));have hoL:(h1.push (seqObj "list" vs.toArray 0)).get? h1.objs.size=some (seqObj "list" vs.toArray 0):=Ao _ rfl;show wpAny _ _ (holding _ _>>=_) _ _ {s with heap:=h1.push (seqObj "list" vs.toArray 0),drawn:=d1,toks:=tk1}
 refine Aa (Bh (AY slot_list_sort ⟨_,hoL,rfl⟩ entry_list_sort (list_sort_treeK strKind_oneLt hoL hv.keysOf (λv₁ v₂ Ii e=>keyKind_strs (by rw[←e];exact hv)) (by omega) λst' a1 a2=>⟨_,rfl,?_⟩) (args_list_sort _)));obtain⟨ms,m1,m2,m3⟩:=sorted_out_str hv a1 a2;obtain⟨e,he⟩:=sortedHeap_at (out:=(arrOf st').map (·.2)) hoL;refine Ac ⟨_,rfl,h h1.objs.size _ d1 tk1 _ ms e m1 (m2.trans hp) m3 (AU hz) he λb o eb=>?_⟩
 · have hb:b<h1.objs.size:=Am (hk b o eb);rw[sortedHeap_old (Ar hb) (by rw[size_push'];exact Ds hb)];exact Ad _ (hk b o eb)
section
variable{te:TE}{p2 p3 p4:Pos}
end
theorem XX:typeLookup (.type "tuple") "keys"=pure none:=by rw[typeLookup_type,builtinLookup_eq_fast];kernel_rfl
set_option maxHeartbeats 4000000 in
theorem KH{prog:Bt}{w:World}{A:Cy}{E:Value→Shared→Prop}{a:Addr}{its:Array Value}{n:Nat}{sl:Array (Option Value)}{h:Heap}{g d t os}{Q:Option Value→Shared→Prop}
 (hh:A.handled=none) (hx:h.get? a=some {cls:= .type "tuple",dict:=none,data:= .seq its n,slots:=sl})
 (q:∀h' tk,(∀b o,h.get? b=some o→h'.get? b=some o)→Q none ⟨h',g,d,tk,os⟩):wpAny (model prog w) A (getAttr? (.ref a) "keys") Q E ⟨h,g,d,t,os⟩:=by
 have y0:∀tk',(⟨h,g,d,tk',os⟩:Shared).TypeIs (.ref a) "tuple":=λ_=>⟨_,hx,rfl⟩;have y1:=sub_AttributeError;have y2:=F.slot_tuple_getattribute.lookup;have y3:=F.slot_tuple_getattribute.bind (.ref a);have y4:=am_tuple_getattr_none;unfold getAttr? getAttrBy? getAttrBy
 repeat (any_goals (first
  | assumption
  | exact y0 _
  | ((with_reducible show wpAny _ _ (call (Value.builtin "tuple.__getattribute__") _ _) _ _ _)
     refine call_meets F.slot_tuple_getattribute (y0 _) am_entry_tuple_getattribute (F.args_tuple_getattribute_2 _ _) (meets_getattribute_miss_tuple a its n sl "keys" _ XX (by decide+kernel)) ⟨hx,hh,λh' tk' e hx'=>?_⟩)
  | wp_step))
 obtain⟨t',u',he⟩:=hx'.there;show wpAny _ _ (getattributeRaised _ _ _ _ _ _ _) _ _ _;unfold getattributeRaised
 repeat (any_goals (first | assumption | wp_step))
 exact q _ _ hx'.keeps
theorem Wa:isSubtype (.type "dict") (.type "dict")=pure true:=by rw[isSubtype_type];kernel_rfl
namespace FS
theorem dict_len:typeLookup (.type "dict") "__len__"=pure (some (.builtin "dict.__len__")):=by rw[typeLookup_type,builtinLookup_eq_fast];kernel_rfl
theorem split_dict_len:splitId "dict.__len__"=some ("dict","__len__"):=by decide+kernel
end FS
section
theorem V6{Q:Bool→Shared→Prop}(hT:s.TypeIs (.ref a) "dict")(h:Q false s):wpAny (model prog w) A (CS (.ref a)) Q E s:=by
 unfold CS;refine Aa (Eh hT FS.dict_len ?_);dsimp only;generalize LK:("dict.__len__":String)=id0;rw[show splitId id0=some ("dict","__len__") from by subst LK;exact FS.split_dict_len]
 subst LK;dsimp only;refine Aa (Dw (b:=true) hT Wa ?_);simp only[Bool.not_true,BH,if_false];refine Aa (CP hT (Ac h))
variable{κ:Type}[DecidableEq κ]{knd:PySem.KeyKind prog w κ}
set_option maxHeartbeats 1000000 in
theorem Xx{kvs:List (κ×Value)}{ep:Nat}{Q:List Value→Shared→Prop}(hh:A.handled=none)(hs:(a==C6)=false)(D:s.heap.DictAt knd a kvs ep)(hz:kvs.length≤Av)
 (hQ:∀(h':Heap)(tk:Nat)(vs:List Value),vs.length=kvs.length→(∀(i:Nat)(v:Value),vs[i]?=some v→∃k u,kvs[i]?=some (k,u)∧knd.is k v=true)→s.heap.objs.size<h'.objs.size→(∀b o,s.heap.get? b=some o→h'.get? b=some o)→Q vs {s with heap:=h',toks:=tk}):
 wpAny (model prog w) A (collect (.ref a)) Q E s:=by
 have haS:a<s.heap.objs.size:=D.lt_size;unfold collect;refine Aa (wpAny_runValue (Ci E7 ?_));rw[Bv E8 _];show wpAny _ A.in1 (newList []>>=λl=>again (.builtin "list.__iadd__" ⟨[l,.ref a],[]⟩)) _ _ s;refine Aa (AR ?_);refine Ac ⟨Ce Do _,Ci Fk ?_⟩;rw[Bv Do _];generalize hh1:s.heap.push {cls:= .type "list",data:= .seq ([]:List Value).toArray}=h1;have hk1:∀b o,s.heap.get? b=some o→h1.get? b=some o:=λb o e=>by rw[←hh1];exact Ad _ e
 have hS1:h1.get? s.heap.objs.size=some {cls:= .type "list",data:= .seq ([]:List Value).toArray}:=by rw[←hh1];exact Ao _ rfl
 have hz1:s.heap.objs.size<h1.objs.size:=Am hS1;have D1:h1.DictAt knd a kvs ep:=D.keep hk1;show wpAny _ A.in1 (CT (.ref s.heap.objs.size) (.ref a) (.ref s.heap.objs.size)) _ _ {s with heap:=h1}
 unfold CT;have hT1:Shared.TypeIs {s with heap:=h1} (.ref a) "dict":=D1.dictOf.typeIs
 refine Aa (CP hT1 ?_);have e1:Cn (.ref s.heap.objs.size) (.ref a)=false:=by unfold Cn;exact beq_eq_false_iff_ne.mpr (By (Ar haS))
 rw[if_neg (by rw[e1];decide)];refine Aa (wpAny_pyIter_dict (s:={s with heap:=h1}) (knd:=knd) hs D1 ?_)
 generalize hh2:h1.push {cls:= .type "dict_keyiterator",data:= .fields #[.ref a,.int 0 0,.int kvs.length 0,.int ep 0]}=h2;have hk2:∀b o,h1.get? b=some o→h2.get? b=some o:=λb o e=>by rw[←hh2];exact Ad _ e
 have hi:h2.IsKeyIter h1.objs.size a 0 kvs.length ep:=by rw[←hh2];exact⟨_,Ao _ rfl,rfl,rfl⟩
 have D2:h2.DictAt knd a kvs ep:=D1.keep hk2;show wpAny _ A.in1 _ _ _ {s with heap:=h2}
 refine Aa (Bh (V6 (s:={s with heap:=h2}) D2.dictOf.typeIs ?_))
 rw[if_pos (by decide)];refine Aa (BN ?_);have hS2:h2.get? s.heap.objs.size=some {cls:= .type "list",data:= .seq ([]:List Value).toArray}:=hk2 _ _ hS1;refine Aa ?_;show wpAny _ A.in1 (updateSeq s.heap.objs.size (·.push .none)>>=λ_=>updateSeq s.heap.objs.size (·.pop)) _ _ {s with heap:=h2}
 refine Aa (BR hS2 rfl ?_);have hS3:=Ba (BZ (·.push Value.none)) hS2 rfl;refine BR hS3 rfl ?_;have hS4:=Ba (BZ (·.pop)) hS3 rfl;have oth:∀b o,b≠s.heap.objs.size→h2.get? b=some o→((h2.update s.heap.objs.size (BZ (·.push Value.none))).update s.heap.objs.size (BZ (·.pop))).get? b=some o:=
  λb o hb e=>(AQ _ _ (By hb)).trans ((AQ _ _ (By hb)).trans e)
 have hIne:h1.objs.size≠s.heap.objs.size:=By (Ar hz1);have hane:a≠h1.objs.size:=Ar (Cd haS hz1);have ext:DS s.heap.objs.size h2 ((h2.update s.heap.objs.size (BZ (·.push Value.none))).update s.heap.objs.size (BZ (·.pop))):=λb o hb e=>oth b o hb e;have W:=(Walks.dictKeys (knd:=knd) (A:=A.in1) (by simpa using hh) h1.objs.size a hane kvs ep).toS;refine Ac ⟨Ce EU _,codeAny_extend_loopS W hz s.heap.objs.size ?_ _ kvs.length 0 _ _ _ rfl (Bo _)
  ⟨hi.extBut ext hIne,D2.extBut ext (Ar haS)⟩ hS4 (ItemsOf.nil _) λs' acc' c' hm hS' hacc=>?_⟩
 · intro hmem;rw[Al,Ae] at hmem;rcases hmem with h | h
   · exact hIne h.symm
   · exact Ar haS h.symm
 · show wpAny _ A (load s.heap.objs.size>>=_) _ _ s';refine Aa (wpAny_load hS' ?_);obtain⟨h',g',d',tk',os'⟩:=s';have eg:g'=s.gens:=hm.gens;have ed:d'=s.drawn:=hm.drawn;have eo:os'=s.os:=hm.os;subst eg;subst ed;subst eo;refine Ac ?_;refine hQ h' tk' acc'.toList (by rw[AJ];exact hacc.1) (λi v hv=>?_) (Am hS') λb o e=>?_
   · exact hacc.2 i v (by rw[←C1];exact hv)
   · have hb:b<s.heap.objs.size:=Am e;refine hm.heap b o ?_ (oth b o (Ar hb) (hk2 _ _ (hk1 _ _ e)));simp only[Al,AF,or_false,not_or];exact⟨Ar hb,Ar (Cd hb hz1)⟩
theorem SL:∀(fs:List Str)(vs:List Value),vs.length=fs.length→(∀(i:Nat)(v:Value)(f:Str),vs[i]?=some v→fs[i]?=some f→(Ja prog w).is (.inr f) v=true)→StrsAre vs fs
 | [],[],_,_=> .nil
 | [],_::_,h,_=>by simp at h
 | _::_,[],h,_=>by simp at h
 | f::fs,v::vs,h,q=>by have h0:=q 0 v f rfl rfl;rw[WE] at h0;obtain⟨t,rfl⟩:∃t,v= .str f t:=Ep h0;exact .cons f t (SL fs vs (by simpa using h) λi v f' hv hf=>q (i+1) v f' (by simpa using hv) (by simpa using hf))
end
open PySem.W PyProof.Rows
namespace KS
variable{lt:Nat→Nat→Bool}{N:Nat}
end KS
end L2
set_option maxHeartbeats 1000000
namespace L2
open PySem PySem.Spec PyProof.Rows PySem.W
def Jn:V→Bool
 | .non=>true
 | .int _=>true
 | _=>false
def Px:V→V→Bool
 | .int i,.int j=>decide (i≤j)
 | _,_=>true
def JC(H:Hp):V→Bool
 | .ref a=>match H a with
  | some (.tup [x,y])=>Jn x && Jn y && Px x y
  | _=>false
 | _=>false
def SpanAt(H:Hp)(v:V)(lo hi:Option Int):Prop:=∃a,v= .ref a∧H a=some (.tup [eV lo,eV hi])
def IS:Option Int→Option Int→Bool
 | some i,some j=>decide (i≤j)
 | _,_=>true
theorem Sl{v:V}{lo hi:Option Int}(h:SpanAt H v lo hi):JC H v=IS lo hi:=by obtain⟨a,rfl,e⟩:=h;unfold JC;simp only[e];cases lo<;>cases hi<;>simp[eV,Jn,Px,IS]
theorem Qg(o:Option Int):∃t,TyOf K H (eV o) (.type t):=by
 cases o with
 | none=>exact⟨_,.non⟩
 | some i=>exact⟨_,.int i⟩
def MY(K:Ai):Sp:=λvs H Q _=>∃(v:V)(t:String),vs=[v]∧TyOf K H v (.type t)∧Q (.bl (t=="int")) H
def Qb(K:Ai):Sp:=λvs H Q _=>∃(v:V)(t:String),vs=[v]∧TyOf K H v (.type t)∧Q (.bl (Jn v)) H
def NO(K:Ai)(H:Hp)(v:V):Prop:=∀a x y,v= .ref a→H a=some (.tup [x,y])→∃t1 t2,TyOf K H x (.type t1)∧TyOf K H y (.type t2)
def R1(K:Ai):Sp:=λvs H Q _=>∃(v:V)(t:String),vs=[v]∧TyOf K H v (.type t)∧NO K H v∧Q (.bl (JC H v)) H
def QL(K:Ai):Sp:=λvs H Q _=>∃(v:V)(t:String),vs=[v]∧TyOf K H v (.type t)∧NO K H v∧JC H v=true∧Q .non H
theorem SpanAt.ty{v:V}{lo hi:Option Int}(h:SpanAt H v lo hi):TyOf K H v (.type "tuple")∧NO K H v:=by obtain⟨a,rfl,q⟩:=h;refine⟨.tup q,λa' x y e q'=>?_⟩;cases e;rw[q] at q';injection q' with q';injection q' with q';injection q' with e1 e2;injection e2 with e2 _;subst e1 e2;obtain⟨t1,h1⟩:=Qg (K:=K) (H:=H) lo;obtain⟨t2,h2⟩:=Qg (K:=K) (H:=H) hi;exact⟨t1,t2,h1,h2⟩
def IE:Option Int→Option Int→Option Int
 | none,o=>o
 | some l,none=>some l
 | some l,some o=>some (if l<o then o else l)
def IF:Option Int→Option Int→Option Int
 | none,o=>o
 | some h,none=>some h
 | some h,some o=>some (if o<h then o else h)
def Ic:Option Int→Option Int→Bool
 | some l,some h=>decide (h<l)
 | _,_=>false
def MR(H:Hp)(v:V)(lo hi:Option Int):Prop:=if Ic lo hi=true then v= .non else SpanAt H v lo hi
def II:Option Int→Int→Bool
 | none,_=>true
 | some l,k=>decide (l≤k)
def IT:Option Int→Int→Bool
 | none,_=>true
 | some h,k=>decide (k≤h)
def HN(lo hi:Option Int)(k:Int):Bool:=II lo k && IT hi k
def R5:Sp:=λvs H Q _=>∃(v w:V)(lo hi lo2 hi2:Option Int),vs=[v,w]∧SpanAt H v lo hi∧SpanAt H w lo2 hi2∧∀v' H',Same H H'→MR H' v' (IE lo lo2) (IF hi hi2)→Q v' H'
theorem UU(o1 o2:Option Int):∃ns:List Int,([o1,o2].filter EJ).map eV=ns.map V.int∧MT (λi j=>decide (j<i)) ns .non=eV (IE o1 o2):=by
 cases o1 with
 | none=>
  cases o2 with
  | none=>exact⟨[],rfl,rfl⟩
  | some b=>exact⟨[b],rfl,rfl⟩
 | some a=>
  cases o2 with
  | none=>exact⟨[a],rfl,rfl⟩
  | some b=>
   refine⟨[a,b],rfl,?_⟩;show V.int (if decide (a<b)=true then b else a)=V.int (if a<b then b else a)
   by_cases h:a<b
   · rw[if_pos (decide_eq_true h),if_pos h]
   · rw[if_neg (by rw[decide_eq_false h];exact Ax),if_neg h]
theorem UV(o1 o2:Option Int):∃ns:List Int,([o1,o2].filter EJ).map eV=ns.map V.int∧MT (λi j=>decide (i<j)) ns .non=eV (IF o1 o2):=by
 cases o1 with
 | none=>
  cases o2 with
  | none=>exact⟨[],rfl,rfl⟩
  | some b=>exact⟨[b],rfl,rfl⟩
 | some a=>
  cases o2 with
  | none=>exact⟨[a],rfl,rfl⟩
  | some b=>
   refine⟨[a,b],rfl,?_⟩;show V.int (if decide (b<a)=true then b else a)=V.int (if b<a then b else a)
   by_cases h:b<a
   · rw[if_pos (decide_eq_true h),if_pos h]
   · rw[if_neg (by rw[decide_eq_false h];exact Ax),if_neg h]
abbrev YK:Int:=1000000000000000
theorem NE:(10:Int)^(15:Int).toNat=YK:=by decide
theorem JE{j:Int}(h0:0≤j)(h1:j≤1000):P_ 10 j:=⟨h0,h1,by decide⟩
theorem LV(lo hi lo2 hi2:Option Int)(k:Int):HN (IE lo lo2) (IF hi hi2) k=(HN lo hi k && HN lo2 hi2 k):=by cases lo<;>cases hi<;>cases lo2<;>cases hi2<;>simp only[HN,II,IT,IE,IF,EK,DV]<;>rw[Bq]<;>simp<;>(try split)<;>(try split)<;>omega
theorem Vq{lo hi:Option Int}(h:Ic lo hi=true)(k:Int):HN lo hi k=false:=by
 cases lo with
 | none=>cases h
 | some l=>
  cases hi with
  | none=>cases h
  | some j=>
   have h:decide (j<l)=true:=h;have h:=of_decide_eq_true h;simp only[HN,II,IT];by_cases h1:l≤k
   · rw[decide_eq_true h1,decide_eq_false (by omega)];rfl
   · rw[decide_eq_false h1];rfl
def dE:Option Int→PD
 | none=> .non
 | some i=> .int i
theorem Qq(o:Option Int):Hi K H (dE o) (eV o):=by
 cases o with
 | none=>show Hi K H .non .non;rw[Hi]
 | some i=>show Hi K H (.int i) (.int i);rw[Hi]
def KG(c:Nat):Bool:=decide (97≤c) && decide (c≤122)
structure FieldOk(x:Str):Prop where
 one:1≤x.length
 eight:x.length≤8
 all:∀c∈x.cps.toList,KG c=true
theorem T2:("a":Str).cps.toList=[97]:=by decide+kernel
theorem T7:("z":Str).cps.toList=[122]:=by decide+kernel
theorem P3{c:Nat}(h:KG c=true):(!decide ((⟨#[c]⟩:Str).cps.toList<("a":Str).cps.toList))=true:=by
 rw[T2];have h1:97≤c:=of_decide_eq_true ((Ay _ _).mp h).1;have:¬([c]:List Nat)<[97]:=by
  intro z;cases z with
  | rel z=>exact absurd z (by omega)
  | cons z=>cases z
 show(!decide (([c]:List Nat)<[97]))=true;rw[decide_eq_false this];rfl
theorem Pw{c:Nat}(h:KG c=true):(!decide (("z":Str).cps.toList<(⟨#[c]⟩:Str).cps.toList))=true:=by
 rw[T7];have h1:c≤122:=of_decide_eq_true ((Ay _ _).mp h).2;have:¬([122]:List Nat)<[c]:=by
  intro z;cases z with
  | rel z=>exact absurd z (by omega)
  | cons z=>cases z
 show(!decide (([122]:List Nat)<[c]))=true;rw[decide_eq_false this];rfl
def QN:Sp:=λvs H Q _=>∃x:Str,vs=[.str x]∧FieldOk x∧∀H',Same H H'→Q (.bl true) H'
def Uc(H:Hp)(p:Addr)(f:Str)(lo hi:Option Int):Prop:=H p=some (.tup [.str f,eV lo,eV hi])
def Sq:Sp:=λvs H Q _=>∃(p:Addr)(f:Str)(lo hi:Option Int),vs=[.ref p]∧Uc H p f lo hi∧FieldOk f∧IS lo hi=true∧∀H',Same H H'→Q (.bl true) H'
def HZ(f g:Str):Prop:=f.cps.toList<g.cps.toList
def Rz:Sp:=λvs H Q _=>∃(a:Addr)(ps:List (Addr×Str×List V)),vs=[.ref a]∧H a=some (.tup (ps.map λp=>V.ref p.1))∧ps.length≤100∧(∀p∈ps,H p.1=some (.tup (V.str p.2.1::p.2.2)))∧
 (∀(i:Nat)p q,ps[i]?=some p→ps[i+1]?=some q→HZ p.2.1 q.2.1)∧∀H',Same H H'→Q (.bl true) H'
abbrev WP:=Str×Option Int×Option Int
def WishAt(H:Hp)(a:Addr)(w:List WP):Prop:=∃ps:List (Addr×WP),ps.map (·.2)=w∧H a=some (.tup (ps.map λp=>V.ref p.1))∧∀p∈ps,H p.1=some (.tup [.str p.2.1,eV p.2.2.1,eV p.2.2.2])
theorem WishAt.keep{H':Hp}{w:List WP}(h:WishAt H a w)(s:Tups H H'):WishAt H' a w:=by obtain⟨ps,e,h1,h2⟩:=h;exact⟨ps,e,s _ _ h1,λp hp=>s _ _ (h2 p hp)⟩
theorem WishAt.same{H':Hp}{w:List WP}(h:WishAt H a w)(s:Same H H'):WishAt H' a w:=h.keep s.tups
structure WOk(w:List WP):Prop where
 len:w.length≤100
 ok:∀p∈w,FieldOk p.1∧IS p.2.1 p.2.2=true
 asc:(w.map (·.1)).Pairwise HZ
def Hv(w:List WP)(f:Str):Option (Option Int×Option Int):=(w.find? (λp=>decide (p.1=f))).map (·.2)
theorem Xt{w:List WP}{f:Str}(h:∀p∈w,p.1≠f):Hv w f=none:=by unfold Hv;rw[Gd.mpr λp hp z=>h p hp (of_decide_eq_true z)];rfl
theorem SN(w:List WP)(p:WP)(f:Str)(hn:Hv w p.1=none):Hv (w++[p]) f=if f=p.1 then some p.2 else Hv w f:=by
 unfold Hv at*;rw[List.find?_append];by_cases h:f=p.1
 · subst h;rw[if_pos rfl];cases e:w.find? (λq=>decide (q.1=p.1)) with
   | some q=>rw[e] at hn;cases hn
   | none=>simp
 · rw[if_neg h];cases e:w.find? (λq=>decide (q.1=f)) with
   | some q=>rfl
   | none=>simp;exact λz=>h z.symm
theorem La{f g:Str}(h:HZ f g):f≠g:=λe=>by subst e;exact Ex _ h
theorem WOk.fresh{w:List WP}(h:WOk w){p:WP}(hp:w[i]?=some p):Hv (w.take i) p.1=none:=by
 refine Xt λq hq e=>?_;obtain⟨j,hj⟩:=List.getElem?_of_mem hq;rw[E9] at hj
 split at hj
 · rename_i lt;have hi:i<w.length:=(An.mp hp).1;have:=D9.mp h.asc j i (by rw[Ab];omega) (by rw[Ab];exact hi) lt;rw[Fe,Fe] at this;have e1:w[j]'(by omega)=q:=(An.mp hj).2;have e2:w[i]=p:=(An.mp hp).2;rw[e1,e2] at this;exact La this e
 · cases hj
def R3:Sp:=λvs H Q _=>∃(a:Addr)(w:List WP),vs=[.ref a]∧WishAt H a w∧WOk w∧∀H',Same H H'→Q (.bl true) H'
def Qd:Sp:=λvs H Q _=>∃(v:V)(lo hi:Option Int),vs=[v]∧SpanAt H v lo hi∧IS lo hi=true∧Q (match lo,hi with | some l,some h=> .int (h - l+1) | _,_=> .non) H
abbrev PP:=Str×Int
theorem Te{K:Ai}{a p:Addr}{xs:List V}{g:TG}{tc:TT}{tk tv:TE}{Q:VK}{js:Im}(Pv:Nat→St→List (HD×V)→Hp→Prop)(h0:Pv 0 (IJ js σ) [] (Hh H p (.dK [])))
 (hl:∀i σ kvs H,i≤xs.length→Pv i σ kvs H→SqT K H a xs∧H p=some (.dK kvs)∧kvs.length<Av)
 (hs:∀(i:Nat)x σ kvs H(N:St→List (HD×V)→Hp→Prop),xs[i]?=some x→Pv i σ kvs H→(∀σ' kvs' H',Pv (i+1) σ' kvs' H'→N σ' kvs' H')→g x σ H λσ2 H2=>tc σ2 H2 λb H3=> if b=true then tk σ2 H3 λk H4=>tv σ2 H4 λy H5=>∃ky,k=kV ky∧H5 p=some (.dK kvs)∧N σ2 (HU kvs ky y) (Hh H5 p (.dK (HU kvs ky y))) else N σ2 kvs H3)
 (hd:∀σ kvs H,Pv xs.length σ kvs H→Q (.ref p) H):NT (Ko K a) p js g tc tk tv σ H Q:=by
 refine⟨λi m σ kvs H=>m=xs.length - i∧i≤xs.length∧Pv i σ kvs H,⟨xs.length,by simp,Bo _,h0⟩,?_⟩;rintro i m σ kvs H ⟨rfl,hi,pv⟩;obtain⟨q0,q1,q2⟩:=hl i σ kvs H hi pv;refine⟨q1,?_⟩;by_cases lt:i<xs.length
 · refine .inr ⟨⟨xs,xs[i],q0,by simp[lt]⟩,q2,λx H' y=>?_⟩;obtain⟨e,y⟩:=y;subst e;exact hs i x σ kvs H' (λσ2 kvs2 H2=>∃m',m'<xs.length - i∧m'=xs.length - (i+1)∧i+1≤xs.length∧Pv (i+1) σ2 kvs2 H2) (y xs q0) pv λσ' ys' H' p'=>⟨xs.length - (i+1),by omega,rfl,lt,p'⟩
 · have e:i=xs.length:=by omega
   subst e;exact .inl ⟨⟨xs,q0,Ag _⟩,hd σ kvs H pv⟩
theorem Uy{y:Str}(h:x.cps.toList=y.cps.toList):x=y:=by obtain⟨a⟩:=x;obtain⟨b⟩:=y;congr;exact Array.toList_inj.mp h
theorem Rh{y:Str}(h:¬HZ x y)(n:x≠y):HZ y x:=by
 unfold HZ at*;rcases Std.lt_trichotomy (α:=List Nat) x.cps.toList y.cps.toList with h1 | h1 | h1
 · exact absurd h1 h
 · exact absurd (Uy h1) n
 · exact h1
theorem Nu{y z:Str}(h:HZ x y)(h2:HZ y z):HZ x z:=List.lt_trans h h2
theorem Sc:∀(r:List Str)(p:Str),risingS p r=true→(p::r).Nodup→(p::r).Pairwise HZ
 | [],p,_,_=>List.pairwise_singleton _ _
 | x::r,p,h,n=>by
  unfold risingS at h;rw[Ay,DO,ltCps_eq,decide_eq_false_iff_not] at h;rw[List.nodup_cons] at n;have px:HZ p x:=Rh (x:=x) (y:=p) h.1 (λe=>n.1 (by rw[←e];exact AD));have ih:=Sc r x h.2 n.2;rw[BX];refine⟨λy hy=>?_,ih⟩;rcases Al.mp hy with rfl | hy
  · exact px
  · exact Nu px ((List.pairwise_cons.mp ih).1 y hy)
theorem OF{ms:List Str}(h:sortedS ms=true)(n:ms.Nodup):ms.Pairwise HZ:=by
 cases ms with
 | nil=>exact .nil
 | cons x r=>exact Sc r x h n
def IU(p:List PP)(f:Str):Option Int:=(p.find? (λx=>decide (x.1=f))).map (·.2)
theorem WG{w:List PP}{f:Str}(h:∀p∈w,p.1≠f):IU w f=none:=by unfold IU;rw[Gd.mpr λp hp z=>h p hp (of_decide_eq_true z)];rfl
theorem SC(w:List PP)(p:PP)(f:Str)(hn:IU w p.1=none):IU (w++[p]) f=if f=p.1 then some p.2 else IU w f:=by
 unfold IU at*;rw[List.find?_append];by_cases h:f=p.1
 · subst h;rw[if_pos rfl];cases e:w.find? (λq=>decide (q.1=p.1)) with
   | some q=>rw[e] at hn;cases hn
   | none=>simp
 · rw[if_neg h];cases e:w.find? (λq=>decide (q.1=f)) with
   | some q=>rfl
   | none=>simp;exact λz=>h z.symm
def Js(p:List PP)(x:WP):Bool:=match IU p x.1 with
 | none=>false
 | some n=>HN x.2.1 x.2.2 n
theorem Xu{p:List PP}{x:WP}(h:IU p x.1=none):Js p x=false:=by unfold Js;rw[h]
theorem OU{p:List PP}{x:WP}{n:Int}(h:IU p x.1=some n):Js p x=HN x.2.1 x.2.2 n:=by unfold Js;rw[h]
def Ho(w:List WP)(p:List PP):Bool:=w.all (Js p)
theorem az:("abcdefghijklmnopqrstuvwxyz":Str).cps.toList=(Bf 26).map (· +97):=by decide+kernel
theorem Qa{r:Int}(h0:0≤r)(h1:r<26):∃c,Jh ("abcdefghijklmnopqrstuvwxyz":Str).cps.toList r=some c∧KG c=true:=by
 rw[az];obtain⟨k,rfl⟩:∃k:Nat,r=k:=⟨r.toNat,by omega⟩;have hk:k<26:=by omega
 refine⟨k+97,?_,?_⟩
 · refine Kd ?_;rw[Af,List.getElem?_range hk];rfl
 · unfold KG;rw[Ay];exact⟨decide_eq_true (by omega),decide_eq_true (by omega)⟩
theorem SB:∀(cs:List Nat),(Txt.join ("":Str) (cs.map λc=>(⟨#[c]⟩:Str))).cps.toList=cs
 | []=>rfl
 | [c]=>rfl
 | c::d::r=>by
  have ih:=SB (d::r);have e:∀(ts:List Str),Txt.join ("":Str) ts=Str.join ("":Str) ts:=λts=>StrLaws.glued_eq_join _ _;rw[e] at ih ⊢;show((⟨#[c]⟩:Str)++("":Str)++Str.join ("":Str) ((d::r).map λc=>(⟨#[c]⟩:Str))).cps.toList=_;have:((⟨#[c]⟩:Str)++("":Str)++Str.join ("":Str) ((d::r).map λc=>(⟨#[c]⟩:Str))).cps.toList=c::(Str.join ("":Str) ((d::r).map λc=>(⟨#[c]⟩:Str))).cps.toList:=by show(#[c]++#[]++_:Array Nat).toList=_;simp
  rw[this,ih]
theorem UI(cs:List Nat)(h:cs.length≤1000):JoinOk ("":Str) (cs.map λc=>(⟨#[c]⟩:Str))=true:=by
 unfold JoinOk;rw[DO];refine StrLaws.joinFits (B:=1) (λy hy=>?_) ?_
 · obtain⟨c,_,rfl⟩:=AM.mp hy;exact Ag 1
 · rw[Ab];show cs.length*1+cs.length*0≤_;omega
theorem Xf{cs:List Nat}(h1:1≤cs.length)(h8:cs.length≤8)(ok:∀c∈cs,KG c=true):FieldOk (Txt.join ("":Str) (cs.map λc=>(⟨#[c]⟩:Str))):=by
 have e:=SB cs;have hl:(Txt.join ("":Str) (cs.map λc=>(⟨#[c]⟩:Str))).length=cs.length:=by show Array.size _=_;rw[←AJ,e]
 exact⟨by rw[hl];exact h1,by rw[hl];exact h8,by rw[e];exact ok⟩
theorem SameB.off{g p:Addr}{H':Hp}{o:HO}(s:SameB b g H H')(hp:H p=none):SameB b g H (Hh H' p o):=λa x h n1 n2=>by
 have:a≠p:=λe=>by rw[e,hp] at h;cases h
 rw[HC this];exact s a x h n1 n2
theorem SameB.none{g p:Addr}{H':Hp}(s:SameB b g H H')(hp:H' p=none)(pb:p≠b)(pg:p≠g):H p=none:=by
 cases e:H p with
 | none=>rfl
 | some o=>rw[s p o e pb pg] at hp;cases hp
open PySem PySem.Spec PyProof.Rows PySem.W
open PySem.AutoSeq1 (wpAny_loadPart')
open PySem.MeetsSeq PySem.MeetsSeq2 PySem.MeetsSeq3 PySem.SeqRoads2
open PySem PySem.Spec PyProof.Rows PySem.W
section
variable{o:HO}
end
open PySem PySem.Spec PyProof.Rows PySem.W
section
variable{o:Obj}{kvs:List (HD×V)}
end
section
variable{tg:Expr}
end
section
variable{p:Addr}{g:TG}{tc:TT}{te:TE}{Q:VK}{o:Obj}{kvs:List (HD×V)}{fs:List Str}
end
def Uq:List V→Hp→VK→Prop:=λxs H Q=>∃(a:Addr)(kvs:List (HD×V))(fs:List Str),xs=[.ref a]∧Rd H a (.dK kvs)∧kvs.map (·.1)=fs.map Sum.inr∧fs.length<64∧
 ∀(p:Addr)(ms:List Str),ms.Perm fs→ms.Nodup→sortedS ms=true→H p=none→Q (.ref p) (Hh H p (.lst (ms.map V.str)))
theorem XR(hc:X.calm=true):J5 X (.builtin "sorted") Uq:=by
 intro pins s σ H xs us Q I r h;obtain⟨a,kvs,fs,rfl,hH,hfs,h64,q⟩:=h;obtain⟨u,rfl,rx⟩:=Jy r;cases rx;obtain⟨hz,hS,vs,rk,m⟩:kvs.length≤Av∧(a==C6)=false∧∃vs,KV kvs vs∧s.heap.DictOf (Ja X.prog X.w) a vs:=by
  rcases hH with hH | ⟨o,hH⟩
  · exact I.hok a _ hH
  · exact(show ObjOk X.prog X.w H s.heap a (.frz o (.dK kvs)) from I.hok a _ hH).2
 obtain⟨ep,D⟩:=m.dictAt;have hlen:kvs.length=vs.length:=EC rk;have hfl:kvs.length=fs.length:=by have:=congrArg Be hfs;simpa using this
 have keys:vs.map (·.1)=fs.map Sum.inr:=by
  rw[←hfs];clear hfs D m hlen hfl hz hH;unfold KV at rk
  induction rk with
  | nil=>rfl
  | cons r t ih=>rw[Az,Az,ih,r.1]
 have hnd:fs.Nodup:=by have:=D.nodup;rw[keys] at this;exact List.Pairwise.of_map _ (λ_ _ z e=>z (by rw[e])) this
 refine EV kind_sorted plain_sorted entry_sorted (args_sorted1 _) ?_;unfold Builtin.«sorted»;refine Aa (m:=checkCount "sorted" 1 1 _) (Ac ?_);refine Aa (Xx (knd:=Ja X.prog X.w) (by simpa using I.ok.hd hc) hS D (by omega) λh1 tk1 ws hwl hws hsz hk=>?_);have hv:StrsAre ws fs:=SL (prog:=X.prog) (w:=X.w) fs ws (by omega) λi v f h2 h3=>by
  obtain⟨k,u,h4,h5⟩:=hws i v h2;have:(vs.map (·.1))[i]?=some k:=by rw[Af,h4];rfl
  rw[keys,Af,h3] at this;cases this;exact h5
 refine Aa (wpAny_newList ?_ (by rw[sizeLine_eq];omega));have hoL:(h1.push (seqObj "list" ws.toArray 0)).get? h1.objs.size=some (seqObj "list" ws.toArray 0):=Ao _ rfl;show wpAny _ _ (holding _ _>>=_) _ _ {s with heap:=h1.push (seqObj "list" ws.toArray 0),toks:=tk1}
 refine Aa (Bh (AY slot_list_sort ⟨_,hoL,rfl⟩ entry_list_sort (list_sort_treeK strKind_oneLt hoL hv.keysOf (λv₁ v₂ Ii e=>keyKind_strs (by rw[←e];exact hv)) (by omega) λst' a1 a2=>⟨_,rfl,?_⟩) (args_list_sort _)));obtain⟨ms,m1,m2,m3⟩:=sorted_out_str hv a1 a2;obtain⟨e,he⟩:=sortedHeap_at (out:=(arrOf st').map (·.2)) hoL;refine Ac ⟨_,rfl,?_⟩;have hn1:H h1.objs.size=none:=I.hok.fresh (AU hsz);refine⟨.ref h1.objs.size,Hh H h1.objs.size (.lst (ms.map V.str)),I.laid (t':=tk1) (λb o eb=>?_) (AU hsz) ?_,rfl,q _ ms m2 (m2.nodup_iff.mpr hnd) m3 hn1⟩
 · have hb:b<h1.objs.size:=Am (hk b o eb);rw[sortedHeap_old (Ar hb) (by rw[size_push'];exact Ds hb)];exact Ad _ (hk b o eb)
 · have hml:ms.length=fs.length:=m2.length_eq;exact⟨by rw[Ab,sizeLine_eq];omega,((arrOf st').map (·.2)).toList,e,N6 m1,by rw[Array.toArray_toList];exact he⟩
end L2
set_option maxHeartbeats 2000000
namespace L2
open PySem PySem.Spec PyProof.Rows PySem.W
section
variable{κ:Type}[DecidableEq κ]{knd:PySem.KeyKind prog w κ}
end
theorem XM(ns:List Int):preSum (λi=>ns.getD i 0) ns.length=ns.sum:=by
 have:∀n,n≤ns.length→preSum (λi=>ns.getD i 0) n=(ns.take n).sum:=by
  intro n
  induction n with
  | zero=>intro _;rfl
  | succ n ih=> intro hn;have e:ns[n]?=some ns[n]:=Aq (by omega);rw[preSum,ih (by omega),Iw e,Fq];simp[Bi,e]
 have:=this ns.length (Ag _);rw[BL] at this;exact this
theorem TZ:Bd "sum"=some (.builtin "sum"):=by decide+kernel
theorem VP(hc:X.calm=true):J5 X (.builtin "sum") (λxs H Q=>∃(p:Addr)(ns:List Int),xs=[.ref p]∧SqL X.K H p (ns.map V.int)∧Q (.int ns.sum) H):=by
 intro pins s σ H xs us Q I r h;obtain⟨p,ns,rfl,hq,q⟩:=h;obtain⟨u,rfl,rx⟩:=Jy r;cases rx;obtain⟨its,r',pl,hz⟩:=I.list hq;have hl:=pl.isList;have hlen:its.length=ns.length:=by have:=r'.length;simpa using this.symm
 have hpl:p<s.heap.objs.size:=by obtain⟨o,ho,_⟩:=hl;exact Am ho
 refine call_sum_walkAnyS (Dr hl ?_);have W:=(Walks.list (prog:=X.prog) (w:=X.w) (A:=X.A.in1) (by simpa using I.ok.hd hc) s.heap.objs.size p (Ar hpl) its.toArray).toS;refine⟨_,_,_,_,_,_,_,λi=>ns.getD i 0,rfl,W,⟨⟨_,Ao _ rfl,rfl,rfl⟩,hl.push _⟩,λb hb=>?_,λi v hv=>?_,λs' t' hm=>?_⟩
 · show b<(s.heap.push _).objs.size;rw[Bk];rcases Al.mp hb with rfl | hb
   · exact B_ _
   · rcases Al.mp hb with rfl | hb
     · exact Ds hpl
     · cases hb
 · have hv:its[i]?=some v:=by simpa using hv
   obtain⟨n,en,t,rfl⟩:∃n,ns[i]?=some n∧∃t,v= .int n t:=by
    have hi:i<ns.length:=by have:=(An.mp hv).1;omega
    have e1:(ns.map V.int)[i]?=some (.int ns[i]):=by rw[Af,Aq hi];rfl
    obtain⟨u,h1,h2⟩:=Vals.get r' e1;rw[hv] at h1;cases h1;obtain⟨t,rfl⟩:=h2;exact⟨_,Aq hi,t,rfl⟩
   refine⟨t,?_⟩;show Value.int n t=Value.int (ns.getD i 0) t;rw[Bi,en];rfl
 · rw[Moved.eq_with hm];have e2:preSum (λi=>ns.getD i 0) its.toArray.size=ns.sum:=by rw[Aw,hlen];exact XM ns
   rw[e2];refine⟨.int ns.sum,H,I.kept (h':=s'.heap) (t':=s'.toks) λb o e=>hm.heap b o (λhmem=>?_) (Ad _ e),⟨_,rfl⟩,q⟩;rcases Al.mp hmem with e1 | hmem
   · exact absurd (e1 ▸ Am e) (CD _)
   · cases hmem
theorem Ti:S_ X .Mult (λx y H Q=>∃i j,x= .int i∧y= .int j∧CMul i j∧Q (.int (i*j)) H):=by intro pins s σ H x y v u Q I r1 r2 h;obtain⟨i,j,e1,e2,hc,q⟩:=h;subst e1;subst e2;obtain⟨t,rfl⟩:=r1;obtain⟨t',rfl⟩:=r2;exact imul_int ⟨.int _,H,I.tok _,⟨_,rfl⟩,q⟩ hc.ok
theorem UK{K:Ai}{t1 t2 p:Addr}{ys:List V}{g:TG}{tc:TT}{te:TE}{Q:VK}{js:Im}(h1:n≤xs.length)(h2:n≤ys.length)(h3:xs.length≤n∨ys.length≤n)(Pv:Nat→St→List V→Hp→Prop)(h0:Pv 0 (IJ js σ) [] (Hh H p (.lst [])))
 (hl:∀i σ zs H,i≤n→Pv i σ zs H→SqL K H t1 xs∧SqL K H t2 ys∧H p=some (.lst zs)∧zs.length<Av)
 (hs:∀(i:Nat)x y σ zs H q(N:St→List V→Hp→Prop),xs[i]?=some x→ys[i]?=some y→H q=none→Pv i σ zs H→(∀σ' ys' H',Pv (i+1) σ' ys' H'→N σ' ys' H')→KU p g tc te zs (.ref q) σ (Hh H q (.tup [x,y])) N)
 (hd:∀σ zs H,Pv n σ zs H→Q (.ref p) H):JF (K7 K t1 t2) p js g tc te σ H Q:=
 L6 (n:=n) (J:=K7 K t1 t2) (js:=js) (σ:=σ) (H:=H) (p:=p) (Q:=Q) (g:=g) (tc:=tc) (te:=te) Pv h0 (λi σ zs H hi pv=>(hl i σ zs H hi pv).2.2)
  (λi σ zs H hi pv=>⟨xs,ys,xs[i],ys[i],(hl i σ zs H (AU hi) pv).1,(hl i σ zs H (AU hi) pv).2.1,by simp,by simp⟩)
  (λσ zs H pv=>⟨xs,ys,(hl _ σ zs H (Ag _) pv).1,(hl _ σ zs H (Ag _) pv).2.1,h3⟩)
  (λi v σ zs H H' N hi y pv hN=>by
   obtain⟨q,e,hq,y⟩:=y;subst e;have ex:xs[i]?=some xs[i]:=by simp
   have ey:ys[i]?=some ys[i]:=by simp
   have e2:=y xs ys _ _ (hl i σ zs H (AU hi) pv).1 (hl i σ zs H (AU hi) pv).2.1 ex ey;subst e2;exact hs i _ _ σ zs H q N ex ey hq pv hN) hd
theorem Uj{tg:Expr}(K:Ai)(h:X.K=K){l:Expr}{tl:TE}(hl:PE X l tl)(hc:X.calm=true:=by rfl):PI X tg l (ME K tl):=by subst h;exact Ku hl
theorem Vn{tg:Expr}(K:Ai)(h:X.K=K){l:Expr}{tl:TE}(hl:PE X l tl)(hc:X.calm=true:=by rfl):PI X tg l (PU K tl):=by subst h;exact Jk hl
theorem Vv(o:Option Int):ID (dE o)=0:=by cases o<;>rfl
theorem Ki{w:List WP}{f:Str}{s:Option Int×Option Int}(h:Hv w f=some s):∃p∈w,p.1=f∧p.2=s:=by
 unfold Hv at h;cases e:w.find? (λp=>decide (p.1=f)) with
 | none=>rw[e] at h;cases h
 | some p=> rw[e] at h;have h2:decide (p.1=f)=true:=Fs (p:=λ(p:WP)=>decide (p.1=f)) e;exact⟨p,DA e,of_decide_eq_true h2,AB h⟩
theorem RM{w:List WP}{f:Str}(h:Hv w f=none):∀p∈w,p.1≠f:=λp hp e=>by unfold Hv at h;rw[Option.map_eq_none_iff,List.find?_eq_none] at h;exact h p hp (decide_eq_true e)
theorem UA{w:List WP}(h:(w.map (·.1)).Pairwise HZ):∀{x y:WP},x∈w→y∈w→x.1=y.1→x=y:=by
 induction w with
 | nil=>intro x y hx;simp at hx
 | cons z r ih=>
  rw[Az,BX] at h;intro x y hx hy e;rcases Al.mp hx with e1 | hx1
  · rcases Al.mp hy with e2 | hy1
    · rw[e1,e2]
    · rw[e1] at e;exact absurd e (La (h.1 _ (AC hy1)))
  · rcases Al.mp hy with e2 | hy1
    · rw[e2] at e;exact absurd e.symm (La (h.1 _ (AC hx1)))
    · exact ih h.2 hx1 hy1 e
theorem V0{w:List WP}(h:(w.map (·.1)).Pairwise HZ){x:WP}(hx:x∈w):w.find? (λp=>decide (p.1=x.1))=some x:=by
 cases e:w.find? (λp=>decide (p.1=x.1)) with
 | none=>exact absurd (decide_eq_true rfl) (List.find?_eq_none.mp e x hx)
 | some y=> have h2:decide (y.1=x.1)=true:=Fs (p:=λ(p:WP)=>decide (p.1=x.1)) e;rw[UA h (DA e) hx (of_decide_eq_true h2)]
theorem Ll{w:List WP}(h:(w.map (·.1)).Pairwise HZ){x:WP}(hx:x∈w):Hv w x.1=some x.2:=by unfold Hv;rw[V0 h hx];rfl
def J2(bs:List (Str×V)):List (HD×V):=bs.map λx=>((Sum.inr x.1:HD),x.2)
def Ij(bs:List (Str×V))(f:Str):Option V:=(bs.find? λx=>decide (x.1=f)).map (·.2)
theorem Lj(f:Str):∀bs:List (Str×V),HH (J2 bs) (.inr f:HD)=Ij bs f
 | []=>rfl
 | x::bs=>by
  have ih:=Lj f bs;unfold J2 HH Ij at*;by_cases h:x.1=f
  · simp[C9,h]
  · simp[C9,h] at ih ⊢;exact ih
theorem Ve(bs:List (Str×V)):(J2 bs).map (·.1)=(bs.map (·.1)).map Sum.inr:=by unfold J2;rw[BP,BP];rfl
def IQ(bs:List (Str×V))(f:Str)(v:V):List (Str×V):=if(bs.any λx=>decide (x.1=f))=true then bs.map (λx=>if x.1=f then(x.1,v) else x) else bs++[(f,v)]
theorem Oy(bs:List (Str×V))(f:Str)(v:V):HU (J2 bs) (.inr f:HD) v=J2 (IQ bs f v):=by
 unfold HU IQ J2;have e:((bs.map λx=>((Sum.inr x.1:HD),x.2)).any λkv=>decide (kv.1=(Sum.inr f:HD)))=bs.any λx=>decide (x.1=f):=by rw[List.any_map];congr 1;funext x;simp
 rw[e]
 split
 · rw[BP,BP];refine CH λx _=>?_;simp only[DZ];by_cases h:x.1=f
   · rw[if_pos (by rw[h]),if_pos h]
   · rw[if_neg (λz=>h (by injection z)),if_neg h]
 · rw[Ah];rfl
theorem Sb(bs:List (Str×V))(f:Str)(v:V):(IQ bs f v).map (·.1)=if f∈bs.map (·.1) then bs.map (·.1) else bs.map (·.1)++[f]:=by
 unfold IQ;have e:(bs.any λx=>decide (x.1=f))=true↔f∈bs.map (·.1):=by
  rw[BC,AM];constructor
  · rintro⟨x,hx,h⟩;exact⟨x,hx,of_decide_eq_true h⟩
  · rintro⟨x,hx,h⟩;exact⟨x,hx,decide_eq_true h⟩
 by_cases h:f∈bs.map (·.1)
 · rw[if_pos (e.mpr h),if_pos h,BP];refine CH λx _=>?_;simp only[DZ]
   split<;>rfl
 · rw[if_neg (λz=>h (e.mp z)),if_neg h,Ah];rfl
theorem WQ{bs:List (Str×V)}(h:(bs.map (·.1)).Nodup)(f:Str)(v:V):((IQ bs f v).map (·.1)).Nodup:=by
 rw[Sb]
 split
 · exact h
 · rename_i hn;exact QW h hn
theorem VU(bs:List (Str×V))(f:Str)(v:V):(IQ bs f v).length≤bs.length+1:=by
 unfold IQ
 split
 · rw[Ab];omega
 · rw[Au];simp
theorem U_(bs:List (Str×V))(f:Str)(v:V)(g:Str):Ij (IQ bs f v) g=if g=f then some v else Ij bs g:=by
 rw[←Lj,←Oy,RH,Lj];by_cases h:g=f
 · subst h;rw[if_pos rfl,if_pos rfl]
 · rw[if_neg h,if_neg (λz=>h (by injection z))]
theorem UZ{bs:List (Str×V)}{f:Str}:f∈bs.map (·.1)↔(Ij bs f).isSome=true:=by
 unfold Ij;rw[Option.isSome_map,List.find?_isSome,AM];constructor
 · rintro⟨x,hx,h⟩;exact⟨x,hx,decide_eq_true h⟩
 · rintro⟨x,hx,h⟩;exact⟨x,hx,of_decide_eq_true h⟩
abbrev HS:=Option Int×Option Int
def IR:Option HS→Option HS→Option HS
 | none,o=>o
 | some s,none=>some s
 | some s,some t=>some (IE s.1 t.1,IF s.2 t.2)
structure IsMet(w1 w2 m:List WP):Prop where
 len:m.length≤w1.length+w2.length
 asc:(m.map (·.1)).Pairwise HZ
 sp:∀f,Hv m f=IR (Hv w1 f) (Hv w2 f)
def LU(w1:List WP)(p:WP):Bool:=match Hv w1 p.1 with
 | none=>false
 | some s=>Ic (IE s.1 p.2.1) (IF s.2 p.2.2)
def Jz(w1 w2:List WP):Bool:=w2.any (LU w1)
theorem Mg{w:List WP}(h:(w.map (·.1)).Pairwise HZ)(p:List PP):Ho w p=true↔∀f s,Hv w f=some s→∃n,IU p f=some n∧HN s.1 s.2 n=true:=by
 unfold Ho;rw[AI];constructor
 · intro q f s hs;obtain⟨x,hx,e1,e2⟩:=Ki hs;have:=q x hx;unfold Js at this;rw[e1] at this;cases e:IU p f with
   | none=>rw[e] at this;cases this
   | some n=>rw[e,e2] at this;exact⟨n,rfl,this⟩
 · intro q x hx;obtain⟨n,h1,h2⟩:=q x.1 x.2 (Ll h hx);rw[OU h1];exact h2
theorem RO{w1 w2 m:List WP}(h1:(w1.map (·.1)).Pairwise HZ)(h2:(w2.map (·.1)).Pairwise HZ)(h:IsMet w1 w2 m)(p:List PP):Ho m p=(Ho w1 p && Ho w2 p):=by
 rw[Bq,Ay,Mg h.asc,Mg h1,Mg h2];constructor
 · intro q;refine⟨λf s hs=>?_,λf s hs=>?_⟩
   · cases e:Hv w2 f with
     | none=>exact q f s (by rw[h.sp,hs,e];rfl)
     | some t=> obtain⟨n,n1,n2⟩:=q f (IE s.1 t.1,IF s.2 t.2) (by rw[h.sp,hs,e];rfl);have:=LV s.1 s.2 t.1 t.2 n;rw[this,Ay] at n2;exact⟨n,n1,n2.1⟩
   · cases e:Hv w1 f with
     | none=>exact q f s (by rw[h.sp,hs,e];rfl)
     | some t=> obtain⟨n,n1,n2⟩:=q f (IE t.1 s.1,IF t.2 s.2) (by rw[h.sp,hs,e];rfl);have:=LV t.1 t.2 s.1 s.2 n;rw[this,Ay] at n2;exact⟨n,n1,n2.2⟩
 · rintro⟨q1,q2⟩ f s hs;rw[h.sp] at hs;cases e1:Hv w1 f with
   | none=> rw[e1] at hs;exact q2 f s hs
   | some t=>
    cases e2:Hv w2 f with
    | none=>rw[e1,e2] at hs;cases hs;exact q1 f _ e1
    | some u=> rw[e1,e2] at hs;cases hs;obtain⟨n,n1,n2⟩:=q1 f t e1;obtain⟨n',n1',n2'⟩:=q2 f u e2;rw[n1] at n1';cases n1';refine⟨n,n1,?_⟩;rw[LV,n2,n2'];rfl
theorem RN{w:List WP}{x:WP}(h:(w.map (·.1)).Pairwise HZ)(hx:x∈w):Hv w x.1=some x.2:=Ll h hx
theorem RI:∀{m m':List WP},(m.map (·.1)).Pairwise HZ→(m'.map (·.1)).Pairwise HZ→(∀f,Hv m f=Hv m' f)→m=m'
 | [],[],_,_,_=>rfl
 | [],y::r,_,_,h=>by have:=h y.1;simp[Hv] at this
 | x::r,[],_,_,h=>by have:=h x.1;simp[Hv] at this
 | x::r,y::r',h1,h2,h=>by
  have hx:=RN h1 (x:=x) (by simp);have hy:=RN h2 (x:=y) (by simp);have g1:=h1;have g2:=h2;rw[Az,BX] at g1 g2;have e:x.1=y.1:=by
   rw[h x.1] at hx;rw[←h y.1] at hy;obtain⟨u,hu,u1,_⟩:=Ki hx;obtain⟨v,hv,v1,_⟩:=Ki hy;rcases Al.mp hu with rfl | hu
   · exact u1.symm
   · rcases Al.mp hv with rfl | hv
     · exact v1
     · have k1:=g2.1 _ (AC (f:=(·.1)) hu);have k2:=g1.1 _ (AC (f:=(·.1)) hv);rw[u1] at k1;rw[v1] at k2;exact absurd (Nu k1 k2) (Ex _)
  have e2:x=y:=by rw[h x.1,e,hy] at hx;exact Prod.ext e (AB hx).symm
  subst e2;have tails:∀f,Hv r f=Hv r' f:=λf=>by
   by_cases hf:x.1=f
   · have n1:Hv r f=none:=by
      cases e:Hv r f with
      | none=>rfl
      | some s=>obtain⟨u,hu,u1,_⟩:=Ki e;have:=g1.1 _ (AC (f:=(·.1)) hu);rw[u1,hf] at this;exact absurd this (Ex _)
     have n2:Hv r' f=none:=by
      cases e:Hv r' f with
      | none=>rfl
      | some s=>obtain⟨u,hu,u1,_⟩:=Ki e;have:=g2.1 _ (AC (f:=(·.1)) hu);rw[u1,hf] at this;exact absurd this (Ex _)
     rw[n1,n2]
   · have:=h f;unfold Hv at this ⊢;rw[DU (by simpa using hf),DU (by simpa using hf)] at this;exact this
  rw[RI g1.2 g2.2 tails]
theorem RS{lo hi:Option Int}:IS lo hi=!Ic lo hi:=by cases lo<;>cases hi<;>simp only[IS,Ic,Bool.not_false];rw[Bq];simp
def Ls(p:WP):PD:= .tup [.str p.1,dE p.2.1,dE p.2.2]
def dW(w:List WP):PD:= .tup (w.map Ls)
theorem Qr:∀ps:List (Addr×WP),(∀p∈ps,H p.1=some (.tup [.str p.2.1,eV p.2.2.1,eV p.2.2.2]))→Reps K H ((ps.map (·.2)).map Ls) (ps.map λp=>V.ref p.1)
 | [],_=>by show Reps K H [] [];rw[Reps]
 | p::ps,h=>by show Reps K H (Ls p.2::_) (V.ref p.1::_);rw[Reps];refine⟨_,_,rfl,?_,Qr ps λq hq=>h q (AE _ hq)⟩;unfold Ls;rw[Hi];refine⟨p.1,_,rfl,SqT.of (h p AD),?_⟩;rw[Reps];refine⟨_,_,rfl,by rw[Hi],?_⟩;rw[Reps];refine⟨_,_,rfl,Qq _,?_⟩;rw[Reps];exact⟨_,_,rfl,Qq _,by rw[Reps]⟩
theorem TL{w:List WP}(h:WishAt H a w):Hi K H (dW w) (.ref a):=by obtain⟨ps,rfl,h1,h2⟩:=h;unfold dW;rw[Hi];exact⟨a,_,rfl,SqT.of h1,Qr ps h2⟩
theorem Vu(p:WP):ID (Ls p)=1:=by unfold Ls;simp[ID,I_,Vv]
theorem Rn:∀w:List WP,I_ (w.map Ls)≤1
 | []=>by show I_ []≤1;rw[I_];omega
 | p::w=>by rw[Az,I_,Vu];have:=Rn w;omega
theorem UE(w:List WP):ID (dW w)≤2:=by unfold dW;rw[ID];have:=Rn w;omega
def YI:Option Int→Int×Int
 | none=>(0,0)
 | some l=>(1,l)
def YJ:Option Int→Int×Int
 | none=>(1,0)
 | some h=>(0,h)
def d2(p:Int×Int):PD:= .tup [.int p.1,.int p.2]
abbrev YL:=Str×(Int×Int)×(Int×Int)
def ky(p:WP):YL:=(p.1,YI p.2.1,YJ p.2.2)
def Ub(H:Hp)(d:Addr)(w:List WP):Prop:=∃bs:List (Str×V),H d=some (.dK (J2 bs))∧bs.map (·.1)=w.map (·.1)∧∀f:Str,match Hv w f with
 | none=>Ij bs f=none
 | some s=>∃t,Ij bs f=some (.ref t)∧H t=some (.tup [eV s.1,eV s.2])
def So:Sp:=λvs H Q _=>∃(a:Addr)(w:List WP),vs=[.ref a]∧WishAt H a w∧WOk w∧∀d H',Same H H'→H d=none→Ub H' d w→Q (.ref d) H'
def Qv:Sp:=λvs H Q _=>∃(a b:Addr)(w1 w2:List WP),vs=[.ref a,.ref b]∧WishAt H a w1∧WishAt H b w2∧WOk w1∧WOk w2∧w1.length+w2.length≤60∧
 (Jz w1 w2=true→∀H',Same H H'→Q .non H')∧(Jz w1 w2=false→∀r m H',IsMet w1 w2 m→Same H H'→WishAt H' r m→Q (.ref r) H')
theorem VH{l:List Str}(h:l.Pairwise HZ):l.Nodup:=h.imp λh e=>La h e
theorem RL(g:Str→HS)(f:Str):∀ms:List Str,Hv (ms.map λf=>(f,g f)) f=if f∈ms then some (g f) else none
 | []=>rfl
 | x::ms=>by
  have ih:=RL g f ms;unfold Hv at*;by_cases h:x=f
  · subst h;simp
  · rw[Az,DU (by simpa using h),ih];by_cases h2:f∈ms
    · rw[if_pos h2,if_pos (AE _ h2)]
    · rw[if_neg h2,if_neg (λz=>(Al.mp z).elim (λe=>h e.symm) h2)]
def L4(w1 w2:List WP)(f:Str):HS:=(IR (Hv w1 f) (Hv w2 f)).getD (none,none)
def JW(w1 w2:List WP)(ms:List Str):List WP:=ms.map λf=>(f,L4 w1 w2 f)
theorem Rp{w1 w2:List WP}{ms:List Str}(asc:ms.Pairwise HZ)(hk:∀f,f∈ms↔(IR (Hv w1 f) (Hv w2 f)).isSome=true)(hl:ms.length≤w1.length+w2.length):IsMet w1 w2 (JW w1 w2 ms):=by
 refine⟨by unfold JW;rw[Ab];exact hl,?_,λf=>?_⟩
 · unfold JW;rw[BP];have:((λx:WP=>x.1)∘λf=>(f,L4 w1 w2 f))=id:=rfl;rw[this,Ez];exact asc
 · unfold JW;rw[RL];cases e:IR (Hv w1 f) (Hv w2 f) with
   | none=>rw[if_neg (λz=>by have:=(hk f).mp z;rw[e] at this;cases this)]
   | some s=> rw[if_pos ((hk f).mpr (by rw[e];rfl))];unfold L4;rw[e];rfl
theorem Vg{z p:Addr}{Q:VK}{js:Im}{cap:St}{te:TE}(base:List WP)(hb:base.length≤100)(e:SqL K H z ((base.map (·.1)).map V.str))(hp:H p=none)(hσ:IJ js σ=none::cap)
 (he:∀x∈base,∀H'(R:VK),Same H H'→(∀t,H' t=none→R (.ref t) (Hh H' t (.tup [.str x.1,eV x.2.1,eV x.2.2])))→te (some (.str x.1)::cap) H' R)
 (hq:∀H'(qs:List (Addr×WP)),Same H H'→qs.map (·.2)=base→H' p=some (.lst (qs.map λq=>V.ref q.1))→(∀q∈qs,H' q.1=some (.tup [.str q.2.1,eV q.2.2.1,eV q.2.2.2]))→Q (.ref p) H'):JF (JJ K z) p js (J6 0) Jl te σ H Q:=by
 have s0:=Hx hp (.lst []);refine Ks (xs:=(base.map (·.1)).map V.str) (λi σ' ys H'=>(∃v,σ'=v::cap)∧Same H H'∧H' p=some (.lst ys)∧∃qs:List (Addr×WP),ys=qs.map (λq=>V.ref q.1)∧qs.map (·.2)=base.take i∧∀q∈qs,H' q.1=some (.tup [.str q.2.1,eV q.2.2.1,eV q.2.2.2])) ⟨⟨_,hσ⟩,s0,Hl,[],rfl,rfl,λq hq=>by simp at hq⟩ ?_ ?_ ?_
 · rintro i σ' ys H' hi ⟨_,s,h1,qs,rfl,h3,_⟩;refine⟨s.seq e,h1,?_⟩;have:=congrArg Be h3;rw[Ab,A5] at this;rw[Ab];exact IB (by omega)
 · rintro i x σ' ys H' N hx ⟨⟨v,rfl⟩,s,h1,qs,rfl,h3,h4⟩ hN;rw[Af,Af] at hx;cases e1:base[i]? with
   | none=>rw[e1] at hx;cases hx
   | some m=>
    rw[e1] at hx;obtain rfl:V.str m.1=x:=AB hx;refine he m (Ak e1) H' _ s λt ht=>?_;have st:=Hx ht (.tup [.str m.1,eV m.2.1,eV m.2.2]);have h5:=st _ _ h1;have tl:=Kc (o:= .lst (qs.map (λq=>V.ref q.1)++[V.ref t])) h5;refine⟨h5,hN _ _ _ ⟨⟨_,rfl⟩,JA (s.trans st) hp,Hl,qs++[(t,m)],?_,?_,?_⟩⟩
    · rw[Ah];rfl
    · rw[Ah,h3,Iw e1];rfl
    · intro q hq;rcases As.mp hq with z | z
      · exact tl _ _ (st _ _ (h4 q z))
      · rw[Ae.mp z];exact tl _ _ Hl
 · rintro σ' ys H' ⟨_,s,h1,qs,rfl,h3,h4⟩;refine hq H' qs s ?_ h1 h4;rw[h3,AH (by simp)]
theorem RE{w:List WP}{f:Str}(h:f∈w.map (·.1)):∃s,Hv w f=some s:=by
 cases e:Hv w f with
 | some s=>exact⟨s,rfl⟩
 | none=> obtain⟨x,hx,hf⟩:=AM.mp h;exact absurd hf (RM e x hx)
end L2
set_option maxHeartbeats 1000000
namespace L2
open PySem PySem.Spec PyProof.Rows PySem.W
def NK:R2:=λx y H Q=>∃a b xs ys,x= .ref a∧y= .ref b∧H a=some (.tup xs)∧H b=some (.tup ys)∧xs.length+ys.length≤Av∧∀p H',Same H H'→H' p=some (.tup (xs++ys))→Q (.ref p) H'
theorem JN:Ie X (binaryOp .Add) NK:=by
 intro pins s σ H x y v u Q I rx ry h;obtain⟨a,b,xs,ys,rfl,rfl,ha,hb,hz,q⟩:=h;cases rx;cases ry;obtain⟨its,r1,p1,_⟩:=I.tuple (SqT.of ha);obtain⟨its2,r2,p2,_⟩:=I.tuple (SqT.of hb);by_cases hx:xs=[]
 · subst hx;cases r1;obtain⟨⟨cls,dd,data,sl⟩,ho,hc,n,hd⟩:=id p1;obtain⟨⟨cls2,dd2,data2,sl2⟩,ho2,hc2,n2,hd2⟩:=id p2;simp only at hc hd hc2 hd2;subst hc hd hc2 hd2;exact concat_meets ⟨_,ho,rfl⟩ ⟨_,ho2,rfl⟩ noFill_tuple_add seq_tuple_add DP DM (DE _ _)
    (tuple_addW0 a b _ _ n n2 dd dd2 sl sl2 rfl) ⟨ho,ho2,⟨.ref b,H,I,rfl,q b H (Same.refl _) hb⟩⟩
 · refine HT.cat_tup p1 p2 (λz=>hx (r1.nil_iff.mp z)) (λz=>⟨.ref a,H,I,rfl,q a H (Same.refl _) (by rw[r2.nil_iff.mp z,Ch];exact ha)⟩) (λz=>?_) (by rw[←r1.length,←r2.length];exact hz);have hn:=I.hok.fresh (Ag _);refine⟨.ref s.heap.objs.size,_,I.laid (t':=s.toks) (o:= .tup (xs++ys)) (λb ob q=>Ad _ q) (Ag _) ?_,rfl,q _ _ (Hx hn _) Hl⟩;exact⟨by rw[Au];exact hz,_,r1.append r2,IsTupP.new _ _⟩
def Ln:V→Option Int→Option Int→Hp→VK→Prop:=λx lo hi H Q=>∃a xs,x= .ref a∧H a=some (.tup xs)∧∀p H',Same H H'→H' p=some (.tup (HV xs lo hi))→Q (.ref p) H'
theorem Wj{lo hi:Option Int}(h:HT.sIx xs.length 0 lo=0∧HT.sIx xs.length xs.length hi=xs.length):HV xs lo hi=xs:=by unfold HV;rw[h.1,h.2,FE,Nat.sub_zero];exact AH (Ag _)
theorem Kh:LL X Ln:=by intro pins s σ H x v vl vu lo hi sl Q I rx hs pl pu h;obtain⟨a,xs,rfl,ha,q⟩:=h;exact QJ pins s σ H (.ref a) v vl vu lo hi sl Q I rx hs pl pu ⟨a,xs,rfl,SqT.of ha,λhw=>q a H (Same.refl _) (by rw[Wj hw];exact ha),λ_ p hp=>q p _ (Hx hp _) Hl⟩
theorem Md{k:Int}(e:k=(n:Int)):HV xs none (some k)=xs.take n:=by
 subst e;unfold HV;rw[HT.sIx_none,HT.sIx_nat,FE,Nat.sub_zero];by_cases h:n≤xs.length
 · rw[DB h]
 · rw[Ff (by omega),AH (Ag _),AH (by omega)]
theorem M_{k:Int}(e:k=(n:Int)):HV xs (some k) none=xs.drop n:=by
 subst e;unfold HV;rw[HT.sIx_none,HT.sIx_nat];by_cases h:n≤xs.length
 · rw[DB h];exact AH (by simp)
 · rw[Ff (by omega),Nat.sub_self,List.take_zero,List.drop_eq_nil_of_le (by omega)]
open PySem PySem.Spec PyProof.Rows PySem.W
section
variable{o:HO}
end
open PySem PySem.Spec PyProof.Rows PySem.W
section
variable{base:Heap}{l:List Env}{H':Hp}{s0 s':Shared}{C t:Addr}{B h':Heap}
end
section
variable{H':Hp}{s':Shared}{C:Addr}
end
def del(H:Hp)(a:Addr):Hp:=λb=>if b=a then none else H b
section
variable{e C:Addr}
end
section
variable{g:Array GenState}{d:Drawn}{t:Nat}{os:OsState}{nm q:Str}{C N:Addr}{bs bm bmB:List Value}{hdct:Bool}{sn:List Str}{sub:List Value}
variable{ab:Bool}{col:Option Bool}{dd:Option Addr}{k0 k1 k2 k3 k5:Option Value}{B newId initId:String}{Ii:List Value}
end
section
variable{g:Array GenState}{d:Drawn}{t:Nat}{os:OsState}{nm q:Str}{C N:Addr}{bs bm bmB:List Value}{hdct:Bool}{sn:List Str}{sub:List Value}
variable{ab:Bool}{col:Option Bool}{dd:Option Addr}{k0 k1 k2 k3 k5:Option Value}{B newId initId:String}{Ii:List Value}
end
section
variable{mg:Str→Option Value}{base:Heap}{N:List Str}{qual:Str}{f:Addr}{cd:Value}{outer:List Env}{E:XK}
end
section
variable{mg:Str→Option Value}{base:Heap}{N:List Str}{qual:Str}{f:Addr}{cd:Value}{outer:List Env}{E:XK}
end
section
variable{E:XK}{C fI:Addr}{fd:BA}{k:Nat}{e1:Expr}{t:TA}{np cpos:Pos}
end
section
variable{o:HO}
end
section
variable{pins':List (Addr×Obj)}{RR:St→Value→Hp→Prop}
end
section
variable{base:Heap}{l:List Env}{H':Hp}{s0 s':Shared}{C t:Addr}{B:Heap}
end
section
variable{M:Model}{g:Array GenState}{d:Drawn}{t:Nat}{os:OsState}{nm q nm0 q0:Str}{C N C0 N0 e:Addr}{bs bm bs0 bm0:List Value}{hdct hdct0:Bool}{sn sn0:List Str}{sub sub0:List Value}
variable{ab ab0:Bool}{col col0:Option Bool}{dd dd0:Option Addr}{k0 k1 k2 k3 k5 j0 j1 j2 j3 j5:Option Value}{newId newId0:String}{oe:Obj}
end
section
variable{C0:Addr}{n:Str}{body suite:List Stmt}{b₀:Stmt}{np hpos:Pos}{tb:(St→Value→Hp→Prop)→TS}{ts:TS}
end
open PySem.W (Looks looks_findIn looks_mroIn looks_typeIn)
section
variable{g:Array GenState}{d:Drawn}{t:Nat}{os:OsState}{C:Addr}
end
end L2
namespace WB
end WB
namespace WB
end WB
namespace L2
section
variable{te:TE}{p2 p3 p4:Pos}
end
end L2
namespace WB
end WB
namespace L2
inductive DX where
 | non
 | bl (b:Bool)
 | int (i:Int)
 | str (x:Str)
 | lst (ds:List DX)
 | tup (ds:List DX)
 | dic
mutual
def pd:DX→PyData
 | .non=> .none
 | .bl b=> .bool b
 | .int i=> .int i
 | .str x=> .str x
 | .lst ds=> .list (Pr ds)
 | .tup ds=> .tuple (Pr ds)
 | .dic=> .dict []
def Pr:List DX→List PyData
 | []=>[]
 | d::ds=>pd d::Pr ds
end
open PySem.AutoSeq1 (wpAny_loadPart')
open PySem.MeetsSeq PySem.MeetsSeq2 PySem.MeetsSeq3 PySem.SeqRoads2
open PySem PySem.Spec PyProof.Rows PySem.Calls
section
variable{κ:Type}[DecidableEq κ]{knd:KeyKind P w κ}
end
inductive DY where
 | non
 | bl (b:Bool)
 | int (i:Int)
 | str (x:Str)
 | lst (ds:List DY)
 | tup (ds:List DY)
 | dic
 | da (d:DY)
mutual
def K6(H:Hp):DY→V→Prop
 | .non,v=>v= .non
 | .bl b,v=>v= .bl b
 | .int i,v=>v= .int i
 | .str x,v=>v= .str x∧x.length≤900
 | .lst ds,v=>∃a xs,v= .ref a∧H a=some (.lst xs)∧ds.length≤900∧NL H ds xs
 | .tup ds,v=>∃a xs,v= .ref a∧H a=some (.tup xs)∧ds.length≤900∧NL H ds xs
 | .dic,v=>∃a,v= .ref a∧H a=some (.dK [])
 | .da d,v=>∃a u,v= .ref a∧H a=some (.dK [(.inr "a",u)])∧K6 H d u
def NL(H:Hp):List DY→List V→Prop
 | [],xs=>xs=[]
 | d::ds,xs=>∃x r,xs=x::r∧K6 H d x∧NL H ds r
end
mutual
def NR:DY→Nat
 | .lst ds=>Oa ds+1
 | .tup ds=>Oa ds+1
 | .da d=>NR d+1
 | _=>0
def Oa:List DY→Nat
 | []=>0
 | d::ds=>max (NR d) (Oa ds)
end
def LK(b g:Addr)(H:Hp):Hp:=λa=>if a=b∨a=g then none else H a
section
variable{mg:Str→Option Value}{base:Heap}
end
theorem Q7{a b:Option Int}(h:eV a=eV b):a=b:=by cases a<;>cases b<;>simp[eV] at h ⊢;exact h
theorem Kb{t u:TS}{D:Ends}(M:St→Hp→Prop)(h1:∀Z:St→Hp→Prop,(∀σ' H',M σ' H'→Z σ' H')→t {D with nx:=Z} σ H)(h2:∀σ' H',M σ' H'→u D σ' H'):Mu t u D σ H:=h1 (u D) h2
theorem Me{v:V}{Q:St→Hp→Prop}(h:Q (σ.set i (some v)) H):J6 i v σ H Q:=h
structure WsAt(H:Hp)(l:Addr)(ws:List (Addr×List WP)):Prop where
 at':H l=some (.lst (ws.map λx=>V.ref x.1))
 ok:∀x∈ws,WishAt H x.1 x.2∧WOk x.2
 len:ws.length≤800
theorem WsAt.same{H':Hp}{l:Addr}{ws:List (Addr×List WP)}(h:WsAt H l ws)(s:Same H H'):WsAt H' l ws:=⟨s _ _ h.at',λx hx=>⟨(h.ok x hx).1.same s,(h.ok x hx).2⟩,h.len⟩
def QK:Sp:=λvs H Q _=>∃(l:Addr)(ws:List (Addr×List WP)),vs=[.ref l]∧WsAt H l ws∧∀H',Same H H'→Q (.bl true) H'
def R0:Sp:=λvs H Q _=>∃(l:Addr)(ws:List (Addr×List WP)),vs=[.ref l]∧WsAt H l ws∧∀H',Same H H'→Q .non H'
open PySem.AutoSeq1 (wpAny_loadPart')
open PySem.MeetsSeq PySem.MeetsSeq2 PySem.MeetsSeq3 PySem.SeqRoads2 PySem.Calls
section
variable{κ:Type}[DecidableEq κ]{knd:KeyKind P w κ}
end
theorem Oh{α:Type}(f:α→Bool)(l:List α):(l.map f).all id=l.all f:=by
 induction l with
 | nil=>rfl
 | cons x l ih=>rw[Az,Da,Da,ih];rfl
theorem T_(xs:List V)(k:Nat):HV xs (some (k:Int)) none=xs.drop k:=by
 unfold HV;rw[show HT.sIx xs.length xs.length none=xs.length from rfl,show HT.sIx xs.length 0 (some (k:Int))=min k xs.length from HT.sIx_nat _ _ k];rcases Nat.le_total k xs.length with h | h
 · rw[DB h];exact AH (by rw[BB];exact Ag _)
 · rw[Ff h,F4 h,F4 (Ag _)];simp
theorem NQ:Bd "abs"=some (.builtin "abs"):=by decide+kernel
abbrev wM:Int:=2147483563
structure Well(H:Hp)(b g l:Addr)(n:Int):Prop where
 ex:∃(gs ls:List Int)(sd c:Int),H b=some (.lst [.ref g,.ref l,.int sd,.int c])∧H g=some (.lst (gs.map V.int))∧H l=some (.lst (ls.map V.int))∧
  gs.length≤63∧ls.length≤63∧(∀x∈ls,0≤x∧x<wM)∧0≤sd∧sd<wM∧0≤c∧c≤n
 gl:g≠l
 bg:b≠g
 bl:b≠l
theorem Well.mono{g l:Addr}{n m:Int}(B:Well H b g l n)(h:n≤m):Well H b g l m:=by obtain⟨⟨gs,ls,sd,c,h1,h2,h3,h4,h5,h6,h7,h8,h9,h10⟩,gl,bg,bl⟩:=B;exact⟨⟨gs,ls,sd,c,h1,h2,h3,h4,h5,h6,h7,h8,h9,E_ h10 h⟩,gl,bg,bl⟩
theorem Well.same{H':Hp}{g l:Addr}{n:Int}(B:Well H b g l n)(h:Same H H'):Well H' b g l n:=by obtain⟨⟨gs,ls,sd,c,h1,h2,h3,h4⟩,gl,bg,bl⟩:=B;exact⟨⟨gs,ls,sd,c,h _ _ h1,h _ _ h2,h _ _ h3,h4⟩,gl,bg,bl⟩
theorem Well.tup{g l:Addr}{n:Int}{H':Hp}(B:Well H b g l n)(s:SameB b g H H')(h:H a=some (.tup xs)):H' a=some (.tup xs):=by obtain⟨gs,ls,c,st,h1,h2,_⟩:=B.ex;exact s a _ h (JX h h1 (by intro z;cases z)) (JX h h2 (by intro z;cases z))
theorem Well.free{g l:Addr}{n:Int}(B:Well H b g l n){p:Addr}(h:H p=none):p≠b∧p≠g∧p≠l:=by obtain⟨gs,ls,c,st,h1,h2,h3,_⟩:=B.ex;exact⟨(Jf h1 h).symm,(Jf h2 h).symm,(Jf h3 h).symm⟩
theorem Well.trk{g l:Addr}{n:Int}(B:Well H b g l n):H b≠none∧H g≠none:=by
 obtain⟨gs,ls,c,st,h1,h2,_⟩:=B.ex;refine⟨?_,?_⟩
 · rw[h1];exact Gb _
 · rw[h2];exact Gb _
theorem Well.back{H':Hp}{g l:Addr}{n:Int}(B:Well H' b g l n)(s:SameB b g H H'):∀a,H' a=Option.none→H a=Option.none:=λa h=>by
 cases e:H a with
 | none=>rfl
 | some o=> have h1:a≠b:=λz=>B.trk.1 (z ▸ h);have h2:a≠g:=λz=>B.trk.2 (z ▸ h);rw[s a o e h1 h2] at h;cases h
theorem Well.off{g l p:Addr}{n:Int}{o:HO}(B:Well H b g l n)(pb:p≠b)(pg:p≠g)(pl:p≠l):Well (Hh H p o) b g l n:=by obtain⟨gs,ls,c,st,e1,e2,e3,r⟩:=B.ex;exact⟨⟨gs,ls,c,st,by rw[HC pb.symm];exact e1,by rw[HC pg.symm];exact e2,by rw[HC pl.symm];exact e3,r⟩,B.gl,B.bg,B.bl⟩
theorem WishAt.sameW{H':Hp}{g l:Addr}{n:Int}{w:List WP}(h:WishAt H a w)(B:Well H b g l n)(s:SameB b g H H'):WishAt H' a w:=h.keep λ_ _ e=>B.tup s e
theorem JV{m:Int}(h:m≤10^6):m<2^500:=Int.lt_of_le_of_lt h (by decide)
def Qz(K:Ai):Sp:=λvs H Q _=>∃(a:Addr)(ns:List Int),vs=[.ref a]∧SqL K H a (ns.map V.int)∧ns.length≤63∧
 ∀(b g l:Addr)(H':Hp),Well H' b g l 0→Same H H'→H b=none→H g=none→Q (.ref b) H'
def Qy:Sp:=λvs H Q _=>∃(b g l:Addr)(n many:Int),vs=[.ref b,.int many]∧Well H b g l n∧n≤2^40∧0<many∧many<2^500∧
 ∀(r:Int)(H':Hp),0≤r→r<many→Well H' b g l (n+1)→SameB b g H H'→Q (.int r) H'
def Qw:Sp:=λvs H Q _=>∃(b g l:Addr)(n most:Int),vs=[.ref b,.int most]∧Well H b g l n∧n≤10^8∧1≤most∧most≤8∧
 ∀(x:Str)(H':Hp),FieldOk x→Well H' b g l (n+12)→SameB b g H H'→Q (.str x) H'
def RK:Sp:=λvs H Q _=>∃(b g l:Addr)(n many:Int),vs=[.ref b,.int many]∧Well H b g l n∧n≤10^7∧1≤many∧many≤6∧
 ∀(r:Addr)(fs:List Str)(H':Hp),H r=none→H' r=some (.lst (fs.map V.str))→fs.Pairwise HZ→(∀f∈fs,FieldOk f)→1≤fs.length→(fs.length:Int)≤many→Well H' b g l (n+200)→SameB b g H H'→Q (.ref r) H'
def Qs:Sp:=λvs H Q _=>∃(b g l:Addr)(n:Int),vs=[.ref b]∧Well H b g l n∧n≤10^9∧∀(r:Int)(H':Hp), -(10^15)<r→r<10^15→Well H' b g l (n+5)→SameB b g H H'→Q (.int r) H'
def Lr(fs:List Str)(w:List WP):Prop:=∀p∈w,p.1∈fs
def Up:V→Option Int→Option Int→Hp→VK→Prop:=λx lo hi H Q=>∃y:Str,x= .str y∧y.length≤100000∧∀z:Str,z.length≤y.length→(∀j,hi=some j→0≤j→(z.length:Int)≤j)→(∀c∈z.cps.toList,c∈y.cps.toList)→(∀j,lo=none→hi=some j→1≤j→1≤y.length→1≤z.length)→Q (.str z) H
theorem WN(lo hi:Option Int)(n:Nat):(AX lo hi 1 n).length≤n∧(∀j,hi=some j→0≤j→((AX lo hi 1 n).length:Int)≤j)∧(∀j,lo=none→hi=some j→1≤j→1≤n→0∈AX lo hi 1 n):=by
 refine⟨indices_len_le lo hi n,λj e h0=>?_,λj e1 e2 h1 h2=>?_⟩
 · subst e;unfold AX sliceRange;cases lo<;>simp only[show(1:Int)>0 by decide,if_true,Ab,CB]<;>(split<;>(try split)<;>(try split)<;>(try simp only[Int.ediv_one])<;>omega)
 · subst e1 e2;unfold AX sliceRange;simp only[show(1:Int)>0 by decide,if_true];refine List.mem_map.mpr ⟨0,CI.mpr ?_,?_⟩
   · have:¬j<0:=by omega
     simp only[this,if_false,Int.ediv_one]
     split<;>omega
   · simp
theorem NY:LL X Up:=by
 intro pins s σ H x v vl vu lo hi sl Q I rx hs pl pu h;obtain⟨y,rfl,hl,q⟩:=h;obtain⟨t,rfl⟩:=(show ∃t,v=Value.str y t from rx);obtain⟨l,el,e1⟩:∃l:Option (Int×Tok),vl=partValue l∧l.map (·.1)=lo:=by
  cases pl with
  | none=>exact⟨none,rfl,rfl⟩
  | int i t=>exact⟨some (i,t),rfl,rfl⟩
 obtain⟨u,eu,e2⟩:∃l:Option (Int×Tok),vu=partValue l∧l.map (·.1)=hi:=by
  cases pu with
  | none=>exact⟨none,rfl,rfl⟩
  | int i t=>exact⟨some (i,t),rfl,rfl⟩
 have hS:s.heap.IsSlice sl l u none:=by obtain⟨o,h1,h2,h3⟩:=hs;exact⟨o,h1,h2,by rw[h3,el,eu];rfl⟩
 have pk:slicePicked y l u none=AX lo hi 1 y.length:=by unfold slicePicked;rw[e1,e2];rfl
 obtain⟨p1,p2,p3⟩:=WN lo hi y.length;have hsz:(100000:Nat)≤Av:=by decide
 refine⟨"str",_,F.slot_str_getitem.lookup,typeIs_str s y t,?_⟩;refine getItem_meets (typeIs_str s y t) (by decide) F.slot_str_getitem F.entry_str_getitem (F.args_str_getitem_2 _ _) (meets_str_getitem_slice y t sl l u none rfl) ⟨hS,?_⟩;unfold sliceMade;rw[pk]
 split
 · rename_i hc;have hc:(AX lo hi 1 y.length).length=y.length:=by simpa using hc
   exact⟨.str y,H,I,⟨t,rfl⟩,q y (Ag _) (λj e h0=>by have:=p2 j e h0;omega) (λc hc=>hc) λ_ _ _ _ z=>z⟩
 · have hz:(⟨((AX lo hi 1 y.length).filterMap (y.cps[·]?)).toArray⟩:Str).length≤(AX lo hi 1 y.length).length:=by
    show(List.filterMap _ _).toArray.size≤_;rw[Aw];exact List.length_filterMap_le _ _
   refine⟨by omega,⟨.str _,H,I.tok _,⟨_,rfl⟩,q _ (by omega) (λj e h0=>by have:=p2 j e h0;omega) (λc hc=>?_) λj f1 f2 f3 f4=>?_⟩⟩
   · have hc:c∈(AX lo hi 1 y.length).filterMap (y.cps[·]?):=by simpa using hc
     obtain⟨i,_,hi'⟩:=DC.mp hc;exact Array.mem_toList_iff.mpr (Array.mem_of_getElem? hi')
   · have m0:=p3 j f1 f2 f3 f4;show 1≤(List.filterMap _ _).toArray.size;rw[Aw];have h0:0<y.cps.size:=f4;have:y.cps[0]'h0∈(AX lo hi 1 y.length).filterMap (y.cps[·]?):=DC.mpr ⟨0,m0,by simp[h0]⟩;exact F5 this
theorem XV(elt t0 i0 t1 i1:Expr)(f0 f1:List Expr)(scope:Scope)(pos:Pos)(it acc:Value)(env:Env):
 compTurn (.ListComp elt [⟨t0,i0,f0,0⟩,⟨t1,i1,f1,0⟩] scope pos) 0 it acc env=(do
  standAt i0.pos
  match ←pyNext it with
  | none=>pure (.done .next)
  | some v=>
   Bz t0 it v
   assign t0 env v
   let mut ok:=true
   for c in f0 do
    if ok then ok ←isTrue c env (eval c env)
   if ok then
    let x ←eval i1 env
    standAt i1.pos
    let x ←Bb i1 env x
    let _ ←runOwn (.compStart (.ListComp elt [⟨t0,i0,f0,0⟩,⟨t1,i1,f1,0⟩] scope pos) 1 (←holding [x] (pyIter x)) acc env) env
   again (.compLoop (.ListComp elt [⟨t0,i0,f0,0⟩,⟨t1,i1,f1,0⟩] scope pos) 0 it acc env)):=by rfl
theorem XW(elt t0 i0 t1 i1:Expr)(f0 f1:List Expr)(scope:Scope)(pos:Pos)(it acc:Value)(env:Env):
 compTurn (.ListComp elt [⟨t0,i0,f0,0⟩,⟨t1,i1,f1,0⟩] scope pos) 1 it acc env=(do
  standAt i1.pos
  match ←pyNext it with
  | none=>pure (.done .next)
  | some v=>
   Bz t1 it v
   assign t1 env v
   let mut ok:=true
   for c in f1 do
    if ok then ok ←isTrue c env (eval c env)
   if ok then
    (do let _ ←call (.builtin "list.append") [acc,←eval elt env])
   again (.compLoop (.ListComp elt [⟨t0,i0,f0,0⟩,⟨t1,i1,f1,0⟩] scope pos) 1 it acc env)):=by rfl
section
variable{R:Result→Shared→Prop}
variable{elt t0 i0 t1 i1:Expr}{f0 f1:List Expr}{it acc:Value}{env:Env}
theorem XU(I:Nat→Shared→Prop)
 (turn:∀n s,I n s→wpAny (model prog w) A (pyNext it) (λr s₁=>match r with
  | none=>R (.ok .next) s₁
  | some v=>wpAny (model prog w) A (Bz t1 it v) (λ_ s₁'=>wpAny (model prog w) A (assign t1 env v) (λ_ s₂=>
   wpAny (model prog w) A (forIn f1 true λc r=>if r=true then do let ok ←isTrue c env (eval c env);pure (ForInStep.yield ok) else pure (ForInStep.yield r)) (λok s₃=>
    if ok=true then wpAny (model prog w) A (eval elt env) (λx s₄=> wpAny (model prog w) A (call (.builtin "list.append") [acc,x]) (λ_ s₅=>∃m,m<n∧I m s₅) (λ_ _=>False) s₄) (λ_ _=>False) s₃
    else ∃m,m<n∧I m s₃) (λ_ _=>False) s₂) (λ_ _=>False) s₁') (λ_ _=>False) s₁) (λ_ _=>False) s)
 (n:Nat) (h:I n s):
 codeAny (model prog w) A (.compLoop (.ListComp elt [⟨t0,i0,f0,0⟩,⟨t1,i1,f1,0⟩] scope pos) 1 it acc env) R s:=by
 refine DH rfl I (λn s hI=>?_) n h;show wpAny _ A ((compTurn (.ListComp elt [⟨t0,i0,f0,0⟩,⟨t1,i1,f1,0⟩] scope pos) 1 it acc env).onRaise (λx=>do noteFrame x env;theTreesLotGoes x)) _ _ s
 refine DR ?_;rw[XW];refine Aa (Bm (Aa (AA (turn n s hI) (λr s₁ h₁=>?_) λ_ _ h'=>h'.elim)));cases r with
 | none=>exact Ac h₁
 | some v=>
  refine Aa (AA h₁ (λ_ s₁' h₁'=>?_) λ_ _ h'=>h'.elim);refine Aa (AA h₁' (λ_ s₂ h₂=>Aa (AA h₂ (λok s₃ h₃=>?_) λ_ _ h'=>h'.elim)) λ_ _ h'=>h'.elim);cases ok with
  | false=>exact Ac ⟨rfl,h₃⟩
  | true=> exact Aa (Aa (AA h₃ (λx s₄ h₄=>Aa (AA h₄ (λ_ s₅ h₅=>Ac (Ac ⟨rfl,h₅⟩)) λ_ _ h'=>h'.elim)) λ_ _ h'=>h'.elim))
theorem XT(hs:∀x,Bb i1 env x=pure x)(I:Nat→Shared→Prop)
 (turn:∀n s,I n s→wpAny (model prog w) A (pyNext it) (λr s₁=>match r with
  | none=>R (.ok .next) s₁
  | some v=>wpAny (model prog w) A (Bz t0 it v) (λ_ s₁'=>wpAny (model prog w) A (assign t0 env v) (λ_ s₂=>
   wpAny (model prog w) A (forIn f0 true λc r=>if r=true then do let ok ←isTrue c env (eval c env);pure (ForInStep.yield ok) else pure (ForInStep.yield r)) (λok s₃=>
    if ok=true then wpAny (model prog w) A (eval i1 env) (λx s₄=>wpAny (model prog w) A (pyIter x) (λj s₅=> codeAny (model prog w) A (.compStart (.ListComp elt [⟨t0,i0,f0,0⟩,⟨t1,i1,f1,0⟩] scope pos) 1 j acc env) (λr s₆=>r= .ok .next∧∃m,m<n∧I m s₆) s₅) (λ_ _=>False) s₄) (λ_ _=>False) s₃
    else ∃m,m<n∧I m s₃) (λ_ _=>False) s₂) (λ_ _=>False) s₁') (λ_ _=>False) s₁) (λ_ _=>False) s)
 (n:Nat) (h:I n s):
 codeAny (model prog w) A (.compLoop (.ListComp elt [⟨t0,i0,f0,0⟩,⟨t1,i1,f1,0⟩] scope pos) 0 it acc env) R s:=by
 refine DH rfl I (λn s hI=>?_) n h;show wpAny _ A ((compTurn (.ListComp elt [⟨t0,i0,f0,0⟩,⟨t1,i1,f1,0⟩] scope pos) 0 it acc env).onRaise (λx=>do noteFrame x env;theTreesLotGoes x)) _ _ s
 refine DR ?_;rw[XV];refine Aa (Bm (Aa (AA (turn n s hI) (λr s₁ h₁=>?_) λ_ _ h'=>h'.elim)));cases r with
 | none=>exact Ac h₁
 | some v=>
  refine Aa (AA h₁ (λ_ s₁' h₁'=>?_) λ_ _ h'=>h'.elim);refine Aa (AA h₁' (λ_ s₂ h₂=>Aa (AA h₂ (λok s₃ h₃=>?_) λ_ _ h'=>h'.elim)) λ_ _ h'=>h'.elim);cases ok with
  | false=>exact Ac ⟨rfl,h₃⟩
  | true=> refine Aa (AA h₃ (λx s₄ h₄=>?_) λ_ _ h'=>h'.elim);refine Aa (Bm ?_);rw[hs];refine Aa (Ac ?_);refine Aa (Bh (AA h₄ (λj s₅ h₅=>?_) λ_ _ h'=>h'.elim));refine Aa (wpAny_runOwn (Cm h₅ λr s₆ h₆=>?_));obtain⟨rfl,h₆⟩:=h₆;exact Ac ⟨rfl,h₆⟩
theorem Yi(h0:codeAny (model prog w) A (.compLoop (.ListComp elt [⟨t0,i0,f0,0⟩,⟨t1,i1,f1,0⟩] scope pos) 1 it acc env) R s)
 (h:wpAny (model prog w) A (pyIter it) (λit' s'=>codeAny (model prog w) A (.compLoop (.ListComp elt [⟨t0,i0,f0,0⟩,⟨t1,i1,f1,0⟩] scope pos) 1 it' acc env) R s')
  (notedBy (model prog w) A env λx s'=>R (.error x) s') s):
 codeAny (model prog w) A (.compStart (.ListComp elt [⟨t0,i0,f0,0⟩,⟨t1,i1,f1,0⟩] scope pos) 1 it acc env) R s:=by
 refine codeAny_of_tree ?_;show wpAny _ _ ((Cp (.ListComp elt [⟨t0,i0,f0,0⟩,⟨t1,i1,f1,0⟩] scope pos) 1 it acc env).onRaise (λx=>do noteFrame x env;standAt theWindowsPlace)) _ _ s
 refine wpAny_notedAt ?_;unfold Cp;show wpAny _ _ (ask>>=_) _ _ s;refine Aa (Dk (wpAny_ite ?_))
 split
 · first
    | exact Aa (Ac (Ac (And.intro rfl h0)))
    | exact Ac (And.intro rfl h0)
 · first
    | exact Aa (BN (Aa (Bm (Aa (AA h (λit' s' h'=>Ac (And.intro rfl h')) λ_ _ x=>x)))))
    | (refine Aa (BN ?_);show wpAny _ _ (standAt i1.pos>>=_) _ _ s;exact Aa (Bm (Aa (AA h (λit' s' h'=>Ac (And.intro rfl h')) λ_ _ x=>x))))
end
def Q1(J:It)(p:Addr)(g:TG)(tc:TT)(te:TE)(σ:St)(ys:List V)(H:Hp)(M:St→List V→Hp→Prop):Prop:=
 ∃W:Nat→Nat→St→List V→Hp→Prop,(∃m,W 0 m σ ys H)∧∀i m σ' zs H,W i m σ' zs H→H p=some (.lst zs)∧
  ((J.stop i H∧M σ' zs H)∨(J.go i H∧zs.length<Av∧∀x H',J.yld i H x H'→g x σ' H' λσ2 H2=>tc σ2 H2 λb H3=>
    if b=true then te σ2 H3 λy H4=>H4 p=some (.lst zs)∧∃m',m'<m∧W (i+1) m' σ2 (zs++[y]) (Hh H4 p (.lst (zs++[y])))
    else ∃m',m'<m∧W (i+1) m' σ2 zs H3))
def Oe(J:It)(p:Addr)(js:Im)(g:TG)(tc:TT)(wi1:TI)(g1:TG)(tc1:TT)(te:TE)(σ:St)(H:Hp)(Q:VK):Prop:=
 ∃W:Nat→Nat→St→List V→Hp→Prop,(∃m,W 0 m (IJ js σ) [] (Hh H p (.lst [])))∧∀i m σ' ys H,W i m σ' ys H→H p=some (.lst ys)∧
  ((J.stop i H∧Q (.ref p) H)∨(J.go i H∧∀x H',J.yld i H x H'→g x σ' H' λσ2 H2=>tc σ2 H2 λb H3=>
    if b=true then wi1 σ2 H3 λJ1 H4=>Q1 J1 p g1 tc1 te σ2 ys H4 λσ3 zs H5=>∃m',m'<m∧W (i+1) m' σ3 zs H5
    else ∃m',m'<m∧W (i+1) m' σ2 ys H3))
def Pg(wi:TI)(js:Im)(g:TG)(tc:TT)(wi1:TI)(g1:TG)(tc1:TT)(te:TE):TE:=λσ H Q=>wi σ H λJ H1=>∀p,H1 p=none→Oe J p js g tc wi1 g1 tc1 te σ H1 Q
theorem Vd{X:Cx}{elt t0 i0 t1 i1:Expr}{f0 f1:List Expr}{scope:Scope}{pos:Pos}{g1:TG}{tc1:TT}{te:TE}{pins:List (Addr×Obj)}{σ:St}{H:Hp}{s:Shared}{p:Addr}{ys:List V}{J:It}{it:Addr}{fp:List Addr}{tn:Nat→Heap→Prop}{M:St→List V→Hp→Prop}
 (hc:X.calm=true) (hx:X.xe=λ_ _=>False) (hg:PG X t1 g1) (ht:HP X f1 tc1) (he:PE X elt te) (I:Inv X pins σ H s) (T:Turn X.prog X.w X.K t1 J fp it tn) (st:tn 0 s.heap) (hf:∀b∈fp,Hm X pins H b) (hw:Q1 J p g1 tc1 te σ ys H M):
 codeAny (model X.prog X.w) X.A (.compStart (.ListComp elt [⟨t0,i0,f0,0⟩,⟨t1,i1,f1,0⟩] scope pos) 1 (.ref it) (.ref p) X.env) (λr s'=>r= .ok .next∧∃σ' zs H',Inv X pins σ' H' s'∧M σ' zs H') s:=by
 obtain⟨W,⟨m0,w0⟩,turn⟩:=hw;have stat:∀{H':Hp},(∀b∈fp,H' b=none)→∀b∈fp,Hm X pins H' b:=λhn b hb=>⟨hn b hb,(hf b hb).2⟩;have loop:codeAny (model X.prog X.w) X.A (.compLoop (.ListComp elt [⟨t0,i0,f0,0⟩,⟨t1,i1,f1,0⟩] scope pos) 1 (.ref it) (.ref p) X.env) (λr s'=>r= .ok .next∧∃σ' zs H',Inv X pins σ' H' s'∧M σ' zs H') s:=by
  refine XU (λn s'=>∃i σ' ys H',Inv X pins σ' H' s'∧tn i s'.heap∧(∀b∈fp,H' b=none)∧W i n σ' ys H') ?_ m0 ⟨0,σ,ys,H,I,st,λb hb=>(hf b hb).1,w0⟩;rintro n s5 ⟨i,σ5,zs,H5,I5,st5,fr5,w5⟩;obtain⟨hp5,tu⟩:=turn i n σ5 zs H5 w5;rcases tu with⟨stop,qn⟩ | ⟨go,hz,step⟩
  · refine Hj (T.done X rfl rfl rfl hc i pins s5 σ5 H5 (λ_ _=>False) I5 (stat fr5) st5 stop) λr s6 ⟨hr,I6⟩=>?_;subst hr;exact⟨rfl,σ5,zs,H5,I6,qn⟩
  · refine Hj (T.item X rfl rfl rfl hc i pins s5 σ5 H5 (λ_ _=>False) I5 (stat fr5) st5 go) λr s6 ⟨u,hr,h6⟩=>?_;subst hr;refine Hj h6 λ_ s7 ⟨x,H7,I7,r7,y7,st7,fr7⟩=>?_;have I7':=I7.pinned (stat fr7) (T.obj _ _ st7);have G:=hg _ s7 σ5 H7 x u _ I7' r7 (step x H7 y7);rw[hx] at G;refine Hj G λ_ s8 ⟨σ8,H8,I8,q8⟩=>?_;have Tt:=ht _ s8 σ8 H8 _ I8 q8;rw[hx] at Tt;refine Hj Tt λb s9 ⟨H9,I9,q9⟩=>?_;have again:∀{s':Shared}{ys':List V}{H':Hp},Inv X (pins++IN fp s7.heap) σ8 H' s'→(∃m',m'<n∧W (i+1) m' σ8 ys' H')→
     ∃m,m<n∧∃i σ' ys H',Inv X pins σ' H' s'∧tn i s'.heap∧(∀b∈fp,H' b=none)∧W i m σ' ys H':=λ{s' ys' H'}I' ⟨m',hm,w'⟩=>by
     refine⟨m',hm,i+1,σ8,ys',H',I'.unpinned,T.keep _ _ _ st7 λb hb o e=>(I'.pin (b,o) (Aj _ (Aj _ (Jt hb e)))).1,λb hb=>?_,w'⟩;obtain⟨o,e,d⟩:=T.obj _ _ st7 b hb;exact(I'.pin (b,o) (Aj _ (Aj _ (Jt hb e)))).2.1
    cases b with
    | false=>exact again I9 q9
    | true=> have Ee:=he _ s9 σ8 H9 _ I9 q9;rw[hx] at Ee;show wpAny _ _ _ _ _ _;refine Hj Ee λxv s10 ⟨y,H10,I10,r10,hp10,q10⟩=>?_;have Ap:=LJ (X:=X) _ s10 σ8 H10 (.ref p) [y] (.ref p) [xv] (λ_ H'=>H'=Hh H10 p (.lst (zs++[y]))) I10 rfl (.cons r10 .nil) ⟨p,zs,y,rfl,rfl,hp10,hz,rfl⟩;rw[hx] at Ap;refine Hj Ap λ_ s11 ⟨_,H11,I11,_,e11⟩=>?_;subst e11;exact again I11 q10
 exact Yi loop (T.self _ 0 _ _ _ st loop)
section
variable{tg iter tg1 iter1 elt:Expr}{ifs ifs1:List Expr}{wi wi1:TI}{js:Im}{g g1:TG}{tc tc1:TT}{te:TE}{N':List Str}
theorem W3{pins:List (Addr×Obj)}{σ:St}{H:Hp}{s:Shared}{E:Value→Shared→Prop}{Q:VK}{J:It}{it:Addr}{fp:List Addr}{tn:Nat→Heap→Prop}{cl:List (Str×Addr)}
 (hc:X.calm=true) (ok:CapOk X N' js scope) (hs1:∀(e:Env)x,Bb iter1 e x=pure x)
 (h2:∀x c,cl.lookup x=some c→X.env.cells.lookup x=some c) (h3:∀p∈scope.names,p.2= .free→(cl.lookup p.1).isSome=true)
 (hg:∀cl C s₀ H₀ ex,PG (HM X N' scope cl C s₀ H₀ ex) tg g) (ht:∀cl C s₀ H₀ ex,HP (HM X N' scope cl C s₀ H₀ ex) ifs tc) (hi1:∀cl C s₀ H₀ ex,PI (HM X N' scope cl C s₀ H₀ ex) tg1 iter1 wi1) (hg1:∀cl C s₀ H₀ ex,PG (HM X N' scope cl C s₀ H₀ ex) tg1 g1) (ht1:∀cl C s₀ H₀ ex,HP (HM X N' scope cl C s₀ H₀ ex) ifs1 tc1) (he:∀cl C s₀ H₀ ex,PE (HM X N' scope cl C s₀ H₀ ex) elt te)
 (I:Inv X pins σ H s) (T:Turn X.prog X.w X.K tg J fp it tn) (st:tn 0 s.heap) (hf:∀b∈fp,Hm X pins H b)
 (hw:∀p,H p=none→Oe J p js g tc wi1 g1 tc1 te σ H Q):
 wpAny (model X.prog X.w) X.A (newList []) (λacc s₃=>wpAny (model X.prog X.w) X.A (newFunctionEnv scope X.env.globals cl [] X.env.qual none .none (some X.env)) (λcenv s₄=>
  codeAny (model X.prog X.w) X.A (.compStart (.ListComp elt [⟨tg,iter,ifs,0⟩,⟨tg1,iter1,ifs1,0⟩] scope pos) 0 (.ref it) acc {cenv with scope:=relabel scope X.env})
   (λr s'=>r= .ok .next∧(∃m,s'.heap.Ns cenv.locals m)∧∃v H',RelV v acc∧Inv X pins σ H' s'∧Hm X pins H' cenv.locals∧Q v H') s₄) E s₃) E s:=by
 have objs:=T.obj _ _ st;refine AR ?_ (by show 0≤Av;decide);obtain⟨W,⟨m0,w0⟩,turn⟩:=hw s.heap.objs.size (I.hok.fresh (Ag _));generalize hp:s.heap.objs.size=p at*;have kp:∀b u,s.heap.get? b=some u→(s.heap.push {cls:= .type "list",dict:=none,data:= .seq ([]:List Value).toArray}).get? b=some u:=λb u e=>Ad _ e;have I3:Inv X pins σ (Hh H p (.lst [])) {s with heap:=s.heap.push {cls:= .type "list",dict:=none,data:= .seq ([]:List Value).toArray}}:=by refine I.laid (t':=s.toks) kp (by rw[hp];exact Ag _) ⟨Bo _,[],0,.nil,?_⟩;have:=Ao s.heap (o:={cls:= .type "list",dict:=none,data:= .seq ([]:List Value).toArray}) rfl;rw[hp] at this;exact this
 have fne:∀b∈fp,b≠p:=λb hb=>by obtain⟨o,e,_⟩:=objs b hb;have:=Am e;rw[←hp];exact Ar this
 have hf3:∀b∈fp,Hm X pins (Hh H p (.lst [])) b:=λb hb=>⟨by rw[HC (fne b hb)];exact(hf b hb).1,(hf b hb).2⟩;have st3:tn 0 (s.heap.push {cls:= .type "list",dict:=none,data:= .seq ([]:List Value).toArray}):=T.keep _ _ _ st λb _ o e=>kp b o e;have lt3:∀b∈fp,b<(s.heap.push {cls:= .type "list",dict:=none,data:= .seq ([]:List Value).toArray}).objs.size:=λb hb=>by obtain⟨o,e,_⟩:=objs b hb;exact Am (kp b o e)
 generalize hs3:({s with heap:=s.heap.push {cls:= .type "list",dict:=none,data:= .seq ([]:List Value).toArray}}:Shared)=s3 at*
 have eh:s.heap.push {cls:= .type "list",dict:=none,data:= .seq ([]:List Value).toArray}=s3.heap:=by rw[←hs3]
 rw[eh] at st3 lt3;refine Nz ok.cells λcl h₁ hns₁ k4 oc=>?_;have I4:=Nt (cl:=cl) (h₁:=h₁) (t':=s3.toks+([]:List (Str×Value)).length) ok I3 h2 h3 hf3 lt3 k4 hns₁ oc;have st4:tn 0 h₁:=T.keep _ _ _ st3 λb _ o e=>k4 b o e;generalize hX:HM X N' scope cl s3.heap.objs.size s3 (Hh H p (.lst [])) fp=X' at I4;have hg':PG X' tg g:=by rw[←hX];exact hg _ _ _ _ _
 have ht':HP X' ifs tc:=by rw[←hX];exact ht _ _ _ _ _
 have he':PE X' elt te:=by rw[←hX];exact he _ _ _ _ _
 have hi1':PI X' tg1 iter1 wi1:=by rw[←hX];exact hi1 _ _ _ _ _
 have hg1':PG X' tg1 g1:=by rw[←hX];exact hg1 _ _ _ _ _
 have ht1':HP X' ifs1 tc1:=by rw[←hX];exact ht1 _ _ _ _ _
 have hs1':∀x,Bb iter1 (compEnvC scope cl s3.heap.objs.size X.env) x=pure x:=hs1 _;have eP:X'.prog=X.prog:=by rw[←hX];rfl
 have ew:X'.w=X.w:=by rw[←hX];rfl
 have eK:X'.K=X.K:=by rw[←hX];rfl
 have ec:X'.calm=true:=by rw[←hX];exact hc
 have eA:X'.A=X.A:=by rw[←hX];rfl
 have ex:X'.xe=λ_ _=>False:=by rw[←hX];rfl
 have eE:X'.env=compEnvC scope cl s3.heap.objs.size X.env:=by rw[←hX];rfl
 have eEx:X'.ex=fp:=by rw[←hX];rfl
 have eN:X'.pn=[]:=by rw[←hX];rfl
 have stat:∀{H':Hp},(∀b∈fp,H' b=none)→∀b∈fp,Hm X' [] H' b:=λ{H'}hn b hb=>by have okc:=I4.ok;refine⟨hn b hb,(okc.exf b (by rw[eEx];exact hb)).1,okc.exfs b (by rw[eEx];exact hb),.inl (by rw[eEx];exact hb),(okc.exf b (by rw[eEx];exact hb)).2,λq hq=>?_⟩;rw[eN] at hq;cases hq
 have loop:∀s₄:Shared,s₄={s3 with heap:=h₁,toks:=s3.toks+([]:List (Str×Value)).length}→
  codeAny (model X.prog X.w) X.A (.compLoop (.ListComp elt [⟨tg,iter,ifs,0⟩,⟨tg1,iter1,ifs1,0⟩] scope pos) 0 (.ref it) (.ref p) (compEnvC scope cl s3.heap.objs.size X.env))
   (λr s'=>r= .ok .next∧(∃m,s'.heap.Ns s3.heap.objs.size m)∧∃v H',RelV v (.ref p)∧Inv X pins σ H' s'∧Hm X pins H' s3.heap.objs.size∧Q v H') s₄:=by
  rintro s₄ rfl;refine XT hs1' (λn s'=>∃i σ' ys H',Inv X' [] σ' H' s'∧tn i s'.heap∧(∀b∈fp,H' b=none)∧W i n σ' ys H') ?_ m0 ⟨0,_,[],_,I4,st4,λb hb=>(hf3 b hb).1,w0⟩;rintro n s5 ⟨i,σ5,ys,H5,I5,st5,fr5,w5⟩;obtain⟨hp5,tu⟩:=turn i n σ5 ys H5 w5;rcases tu with⟨stop,qn⟩ | ⟨go,step⟩
  · have D:=T.done X' eP ew eK ec i [] s5 σ5 H5 (λ_ _=>False) I5 (stat fr5) st5 stop;rw[eA] at D;refine Hj D λr s6 ⟨hr,I6⟩=>?_;subst hr;refine⟨rfl,?_,.ref p,H5,rfl,?_,?_,qn⟩
    · obtain⟨m,hm,_⟩:=I6.loc;rw[eE] at hm;exact⟨m,hm⟩
    · have b6:=I6.base;have ho:=I6.os;have hk:=I6.hok;have hb:=I6.bare;subst hX;exact I3.call' (ch:=fp) ho b6 hk hb λb hb'=>⟨(hf b hb').2.2.2.1,(hf b hb').2.1,(hf b hb').2.2.2.2.1,(hf b hb').2.2.2.2.2⟩
    · have fr:=I6.free;rw[eE] at fr;exact I3.fpOk (Ag _) fr
  · have D:=T.item X' eP ew eK ec i [] s5 σ5 H5 (λ_ _=>False) I5 (stat fr5) st5 go;rw[eA] at D;refine Hj D λr s6 ⟨u,hr,h6⟩=>?_;subst hr;refine Hj h6 λ_ s7 ⟨x,H7,I7,r7,y7,st7,fr7⟩=>?_;have I7':=I7.pinned (stat fr7) (T.obj _ _ st7);have G:=hg' _ s7 σ5 H7 x u _ I7' r7 (step x H7 y7);rw[eP,ew,eA,ex,eE] at G;refine Hj G λ_ s8 ⟨σ8,H8,I8,q8⟩=>?_;have Tt:=ht' _ s8 σ8 H8 _ I8 q8;rw[eP,ew,eA,ex,eE] at Tt;refine Hj Tt λb s9 ⟨H9,I9,q9⟩=>?_;have again:∀{s':Shared}{σ8:St}{ys':List V}{H':Hp},Inv X' ([]++IN fp s7.heap) σ8 H' s'→(∃m',m'<n∧W (i+1) m' σ8 ys' H')→
     ∃m,m<n∧∃i σ' ys H',Inv X' [] σ' H' s'∧tn i s'.heap∧(∀b∈fp,H' b=none)∧W i m σ' ys H':=λ{s' σ8 ys' H'}I' ⟨m',hm,w'⟩=>by
     refine⟨m',hm,i+1,σ8,ys',H',I'.unpinned,T.keep _ _ _ st7 λb hb o e=>(I'.pin (b,o) (Aj _ (Aj _ (Jt hb e)))).1,λb hb=>?_,w'⟩;obtain⟨o,e,d⟩:=T.obj _ _ st7 b hb;exact(I'.pin (b,o) (Aj _ (Aj _ (Jt hb e)))).2.1
    cases b with
    | false=>exact again I9 q9
    | true=> have Ei:=hi1' _ s9 σ8 H9 _ I9 q9;rw[eP,ew,eA,ex,eE] at Ei;show wpAny _ _ _ _ _ _;refine Hj Ei λxv s10 h10=>Hj h10 λitv s11 h11=>?_;obtain⟨it1,fp1,tn1,J1,H11,e11,I11,T1,st11,f11,hw11⟩:=h11;subst e11;have In:=Vd (X:=X') (elt:=elt) (t0:=tg) (i0:=iter) (t1:=tg1) (i1:=iter1) (f0:=ifs) (f1:=ifs1) (scope:=scope) (pos:=pos) ec ex hg1' ht1' he' I11 T1 st11 f11 hw11;rw[eP,ew,eA,eE] at In;refine Cm In λr s12 ⟨hr,σ12,zs,H12,I12,m12⟩=>⟨hr,?_⟩;exact again I12 m12
 exact F0 (loop _ rfl) (T.self _ 0 _ _ _ st4 (loop _ rfl))
theorem Ws{px:Pos}{spos:Pos}(hN:X.N.Nodup)(hi':X.N[i]?=some x)(hx:Ly X.env.scope x)(hc:X.calm=true)(ok:CapOk X N' js scope)(hi:PI X tg iter wi)
 (hg:∀cl C s₀ H₀ ex,PG (HM X N' scope cl C s₀ H₀ ex) tg g) (ht:∀cl C s₀ H₀ ex,HP (HM X N' scope cl C s₀ H₀ ex) ifs tc) (hi1:∀cl C s₀ H₀ ex,PI (HM X N' scope cl C s₀ H₀ ex) tg1 iter1 wi1) (hg1:∀cl C s₀ H₀ ex,PG (HM X N' scope cl C s₀ H₀ ex) tg1 g1) (ht1:∀cl C s₀ H₀ ex,HP (HM X N' scope cl C s₀ H₀ ex) ifs1 tc1) (he:∀cl C s₀ H₀ ex,PE (HM X N' scope cl C s₀ H₀ ex) elt te)
 (hsw:swapsWith (.ListComp elt [⟨tg,iter,ifs,0⟩,⟨tg1,iter1,ifs1,0⟩] scope pos) (some (.Name x px)) spos.line X.env=pure true:=by rfl)
 (hs:∀x,Bb iter X.env x=pure x:=by intro _;rfl) (hs1:∀(e:Env)x,Bb iter1 e x=pure x:=by intro _ _;rfl) (hf:X.fn x=true∨X.env.scope.names.lookup x=some .local:=by first | exact .inl rfl | exact .inr rfl | assumption):
 PS X (.Assign [.Name x px] (.ListComp elt [⟨tg,iter,ifs,0⟩,⟨tg1,iter1,ifs1,0⟩] scope pos) spos) (K0 (Pg wi js g tc wi1 g1 tc1 te) (J6 i)):=by
 intro pins s σ H D I h;obtain⟨cl,c1,c2,c3⟩:=Ma (scope:=scope) I.ok.has ok.free;rw[exec_Assign_Name_used _ _ _ _ hsw];refine Aa (Bm (Aa ?_));show wpAny _ X.A (do let _ ←comprehension (.ListComp elt [⟨tg,iter,ifs,0⟩,⟨tg1,iter1,ifs1,0⟩] scope pos) scope X.env _ (newList []) false (eval iter X.env) (some (assign (.Name x px) X.env))) _ _ s
 refine Aa (AA (CA (use:=some (assign (.Name x px) X.env)) (Q:=λ_ s'=>SP X pins D .next s') rfl hs c1 ok.kind ok.names
  (Hj (hi pins s σ H _ I h) λv s1 h1=>Hj h1 λitv s2 h2=>?_)) (λ_ s' hq=>Ac (Ac hq)) λ_ _ e=>e)
 obtain⟨it,fp,tn,J,H2,e,I2,T,st2,f2,hw⟩:=h2;subst e;refine AA (W3 (Q:=λx H1=>J6 i x σ H1 D.nx) (iter:=iter) (pos:=pos) hc ok hs1 c2 c3 hg ht hi1 hg1 ht1 he I2 T st2 f2 hw) (λacc s3 h3=>AA h3 (λcenv s4 h4=>?_) λ_ _ z=>z) λ_ _ z=>z;refine Cm h4 λr s5 h5=>?_;obtain⟨rfl,⟨m,hm⟩,v,H5,rv,I5,f5,q5⟩:=h5;obtain⟨f0,f1,f2',f3,f4,f6⟩:=f5;show wpAny _ X.A (assign (.Name x px) X.env acc) _ _ _;refine EM (OG I5 hN hi' hx rv (λs6 I6 ch=>?_) hf);obtain⟨a,sb,ha⟩:=ch;have na:cenv.locals≠a:=by
  rcases ha with z | z
  · rw[z];exact f1
  · exact λy=>f4 x a z y.symm
 refine⟨m,hm.sameBut sb na,λh' sb'=>⟨_,H5,I6.turned (t':=s6.toks) (λb o hb e=>(sb'.2 b hb).trans e) f0 f1 f3 f4 f6,q5⟩⟩
end
theorem Uv(elt t0 i0 t1 i1:Expr)(f0 f1:List Expr)(scope:Scope)(pos:Pos)(it acc:Value)(env:Env):
 compTurn (.SetComp elt [⟨t0,i0,f0,0⟩,⟨t1,i1,f1,0⟩] scope pos) 0 it acc env=(do
  standAt i0.pos
  match ←pyNext it with
  | none=>pure (.done .next)
  | some v=>
   Bz t0 it v
   assign t0 env v
   let mut ok:=true
   for c in f0 do
    if ok then ok ←isTrue c env (eval c env)
   if ok then
    let x ←eval i1 env
    standAt i1.pos
    let x ←Bb i1 env x
    let _ ←runOwn (.compStart (.SetComp elt [⟨t0,i0,f0,0⟩,⟨t1,i1,f1,0⟩] scope pos) 1 (←holding [x] (pyIter x)) acc env) env
   again (.compLoop (.SetComp elt [⟨t0,i0,f0,0⟩,⟨t1,i1,f1,0⟩] scope pos) 0 it acc env)):=by rfl
theorem Uw(elt t0 i0 t1 i1:Expr)(f0 f1:List Expr)(scope:Scope)(pos:Pos)(it acc:Value)(env:Env):
 compTurn (.SetComp elt [⟨t0,i0,f0,0⟩,⟨t1,i1,f1,0⟩] scope pos) 1 it acc env=(do
  standAt i1.pos
  match ←pyNext it with
  | none=>pure (.done .next)
  | some v=>
   Bz t1 it v
   assign t1 env v
   let mut ok:=true
   for c in f1 do
    if ok then ok ←isTrue c env (eval c env)
   if ok then
    (do let v ←eval elt env;standAt elt.pos;let _ ←call (.builtin "set.add") [acc,v])
   again (.compLoop (.SetComp elt [⟨t0,i0,f0,0⟩,⟨t1,i1,f1,0⟩] scope pos) 1 it acc env)):=by rfl
section
variable{R:Result→Shared→Prop}
variable{elt t0 i0 t1 i1:Expr}{f0 f1:List Expr}{it acc:Value}{env:Env}
theorem Uu(I:Nat→Shared→Prop)
 (turn:∀n s,I n s→wpAny (model prog w) A (pyNext it) (λr s₁=>match r with
  | none=>R (.ok .next) s₁
  | some v=>wpAny (model prog w) A (Bz t1 it v) (λ_ s₁'=>wpAny (model prog w) A (assign t1 env v) (λ_ s₂=>
   wpAny (model prog w) A (forIn f1 true λc r=>if r=true then do let ok ←isTrue c env (eval c env);pure (ForInStep.yield ok) else pure (ForInStep.yield r)) (λok s₃=>
    if ok=true then wpAny (model prog w) A (eval elt env) (λx s₄=> wpAny (model prog w) A (call (.builtin "set.add") [acc,x]) (λ_ s₅=>∃m,m<n∧I m s₅) (λ_ _=>False) s₄) (λ_ _=>False) s₃
    else ∃m,m<n∧I m s₃) (λ_ _=>False) s₂) (λ_ _=>False) s₁') (λ_ _=>False) s₁) (λ_ _=>False) s)
 (n:Nat) (h:I n s):
 codeAny (model prog w) A (.compLoop (.SetComp elt [⟨t0,i0,f0,0⟩,⟨t1,i1,f1,0⟩] scope pos) 1 it acc env) R s:=by
 refine DH rfl I (λn s hI=>?_) n h;show wpAny _ A ((compTurn (.SetComp elt [⟨t0,i0,f0,0⟩,⟨t1,i1,f1,0⟩] scope pos) 1 it acc env).onRaise (λx=>do noteFrame x env;theTreesLotGoes x)) _ _ s
 refine DR ?_;rw[Uw];refine Aa (Bm (Aa (AA (turn n s hI) (λr s₁ h₁=>?_) λ_ _ h'=>h'.elim)));cases r with
 | none=>exact Ac h₁
 | some v=>
  refine Aa (AA h₁ (λ_ s₁' h₁'=>?_) λ_ _ h'=>h'.elim);refine Aa (AA h₁' (λ_ s₂ h₂=>Aa (AA h₂ (λok s₃ h₃=>?_) λ_ _ h'=>h'.elim)) λ_ _ h'=>h'.elim);cases ok with
  | false=>exact Ac ⟨rfl,h₃⟩
  | true=> exact Aa (Aa (AA h₃ (λx s₄ h₄=>Aa (Bm (Aa (AA h₄ (λ_ s₅ h₅=>Ac (Ac ⟨rfl,h₅⟩)) λ_ _ h'=>h'.elim)))) λ_ _ h'=>h'.elim))
theorem Ut(hs:∀x,Bb i1 env x=pure x)(I:Nat→Shared→Prop)
 (turn:∀n s,I n s→wpAny (model prog w) A (pyNext it) (λr s₁=>match r with
  | none=>R (.ok .next) s₁
  | some v=>wpAny (model prog w) A (Bz t0 it v) (λ_ s₁'=>wpAny (model prog w) A (assign t0 env v) (λ_ s₂=>
   wpAny (model prog w) A (forIn f0 true λc r=>if r=true then do let ok ←isTrue c env (eval c env);pure (ForInStep.yield ok) else pure (ForInStep.yield r)) (λok s₃=>
    if ok=true then wpAny (model prog w) A (eval i1 env) (λx s₄=>wpAny (model prog w) A (pyIter x) (λj s₅=> codeAny (model prog w) A (.compStart (.SetComp elt [⟨t0,i0,f0,0⟩,⟨t1,i1,f1,0⟩] scope pos) 1 j acc env) (λr s₆=>r= .ok .next∧∃m,m<n∧I m s₆) s₅) (λ_ _=>False) s₄) (λ_ _=>False) s₃
    else ∃m,m<n∧I m s₃) (λ_ _=>False) s₂) (λ_ _=>False) s₁') (λ_ _=>False) s₁) (λ_ _=>False) s)
 (n:Nat) (h:I n s):
 codeAny (model prog w) A (.compLoop (.SetComp elt [⟨t0,i0,f0,0⟩,⟨t1,i1,f1,0⟩] scope pos) 0 it acc env) R s:=by
 refine DH rfl I (λn s hI=>?_) n h;show wpAny _ A ((compTurn (.SetComp elt [⟨t0,i0,f0,0⟩,⟨t1,i1,f1,0⟩] scope pos) 0 it acc env).onRaise (λx=>do noteFrame x env;theTreesLotGoes x)) _ _ s
 refine DR ?_;rw[Uv];refine Aa (Bm (Aa (AA (turn n s hI) (λr s₁ h₁=>?_) λ_ _ h'=>h'.elim)));cases r with
 | none=>exact Ac h₁
 | some v=>
  refine Aa (AA h₁ (λ_ s₁' h₁'=>?_) λ_ _ h'=>h'.elim);refine Aa (AA h₁' (λ_ s₂ h₂=>Aa (AA h₂ (λok s₃ h₃=>?_) λ_ _ h'=>h'.elim)) λ_ _ h'=>h'.elim);cases ok with
  | false=>exact Ac ⟨rfl,h₃⟩
  | true=> refine Aa (AA h₃ (λx s₄ h₄=>?_) λ_ _ h'=>h'.elim);refine Aa (Bm ?_);rw[hs];refine Aa (Ac ?_);refine Aa (Bh (AA h₄ (λj s₅ h₅=>?_) λ_ _ h'=>h'.elim));refine Aa (wpAny_runOwn (Cm h₅ λr s₆ h₆=>?_));obtain⟨rfl,h₆⟩:=h₆;exact Ac ⟨rfl,h₆⟩
theorem Rc(d:Nat)(hd:d=0∨d=1)(h0:codeAny (model prog w) A (.compLoop (.SetComp elt [⟨t0,i0,f0,0⟩,⟨t1,i1,f1,0⟩] scope pos) d it acc env) R s)
 (h:wpAny (model prog w) A (pyIter it) (λit' s'=>codeAny (model prog w) A (.compLoop (.SetComp elt [⟨t0,i0,f0,0⟩,⟨t1,i1,f1,0⟩] scope pos) d it' acc env) R s')
  (notedBy (model prog w) A env λx s'=>R (.error x) s') s):
 codeAny (model prog w) A (.compStart (.SetComp elt [⟨t0,i0,f0,0⟩,⟨t1,i1,f1,0⟩] scope pos) d it acc env) R s:=by
 rcases hd with rfl | rfl
 all_goals
  refine codeAny_of_tree ?_;show wpAny _ _ ((Cp (.SetComp elt [⟨t0,i0,f0,0⟩,⟨t1,i1,f1,0⟩] scope pos) _ it acc env).onRaise (λx=>do noteFrame x env;standAt theWindowsPlace)) _ _ s
  refine wpAny_notedAt ?_;unfold Cp;show wpAny _ _ (ask>>=_) _ _ s;refine Aa (Dk (wpAny_ite ?_))
  split
  · first
     | exact Aa (Ac (Ac (And.intro rfl h0)))
     | exact Ac (And.intro rfl h0)
  · first
     | exact Aa (BN (Aa (Bm (Aa (AA h (λit' s' h'=>Ac (And.intro rfl h')) λ_ _ x=>x)))))
     | (refine Aa (BN ?_);show wpAny _ _ (standAt _>>=_) _ _ s;exact Aa (Bm (Aa (AA h (λit' s' h'=>Ac (And.intro rfl h')) λ_ _ x=>x))))
theorem Ou{ks:List Str}(T:TxSet prog w h a ks):∃o,h.get? a=some o∧∀v,o.data≠ .cell v:=by obtain⟨es,ep,t,ho,_⟩:=T.at';exact⟨_,ho,λv z=>by cases z⟩
theorem Wb{ks:List Str}(T:TxSet prog w s.heap a ks):s.TypeIs (.ref a) "set":=by obtain⟨es,ep,t,ho,_⟩:=T.at';exact⟨_,ho,rfl⟩
theorem XS{ks:List Str}{k:Str}{tk:Tok}{Q:Value→Shared→Prop}(T:TxSet prog w s.heap a ks)(hroom:ks.length+1<scanBound)
 (h:∀h' ks',Bp a s.heap h'→TxSet prog w h' a ks'→ks'.length≤ks.length+1→(∀x,x∈ks'↔x∈ks∨x=k)→Q .none {s with heap:=h',toks:=s.toks+1}):
 wpAny (model prog w) A (call (.builtin "set.add") [.ref a,.str k tk]) Q E s:=by
 refine AY PySem.F.slot_set_add (Wb T) PySem.F.entry_set_add ?_ (PySem.F.args_set_add_2 _ _);unfold Builtin.«set.add» Builtin.Frozenset.oneOther;simp only[List.isEmpty_nil,bind_assoc];unfold Builtin.Frozenset.addrOf setAdd;refine Aa (Ac ?_)
 try dsimp only
 refine Aa (Ac ?_)
 try dsimp only
 refine Aa ?_;refine Bh ?_;refine Aa ((strKind prog w).pyHash (NZ k tk) ?_);refine VY (s:={s with toks:=s.toks+1}) T hroom λh' ks' sb T' l m b=>?_
 show wpAny _ _ (ret Value.none) _ _ _;exact Ac ⟨_,rfl,h h' ks' sb T' l m⟩
theorem Wm{Q:Value→Shared→Prop}(h:Q (.ref s.heap.objs.size) {s with heap:=s.heap.push {cls:= .type "set",dict:=none,data:= .set #[] 0 (.fresh 0 0 (!HQ w))}}):
 wpAny (model prog w) A (newSet (.type "set")) Q E s:=by
 unfold newSet;obtain⟨hp,g,d,tk,os⟩:=s;dsimp only
 wp_walk
 refine Dk (Ac ?_);dsimp only;simp only[newObj];refine Aa (wpAny_alloc (Ac ?_));exact h
end
def QB(J:It)(g:TG)(tc:TT)(te:TE)(σ:St)(ks:List Str)(H:Hp)(M:St→List Str→Hp→Prop):Prop:=
 ∃W:Nat→Nat→St→List Str→Hp→Prop,(∃m,W 0 m σ ks H)∧∀i m σ' zs H,W i m σ' zs H→
  ((J.stop i H∧M σ' zs H)∨(J.go i H∧zs.length<200∧∀x H',J.yld i H x H'→g x σ' H' λσ2 H2=>tc σ2 H2 λb H3=>
    if b=true then te σ2 H3 λy H4=>∃k,y= .str k∧∀zs',zs'.length≤zs.length+1→(∀x,x∈zs'↔x∈zs∨x=k)→zs'.Nodup→∃m',m'<m∧W (i+1) m' σ2 zs' H4
    else ∃m',m'<m∧W (i+1) m' σ2 zs H3))
def Of(J:It)(js:Im)(g:TG)(tc:TT)(wi1:TI)(g1:TG)(tc1:TT)(te:TE)(σ:St)(H:Hp)(M:List Str→Hp→Prop):Prop:=
 ∃W:Nat→Nat→St→List Str→Hp→Prop,(∃m,W 0 m (IJ js σ) [] H)∧∀i m σ' ys H,W i m σ' ys H→
  ((J.stop i H∧M ys H)∨(J.go i H∧∀x H',J.yld i H x H'→g x σ' H' λσ2 H2=>tc σ2 H2 λb H3=>
    if b=true then wi1 σ2 H3 λJ1 H4=>QB J1 g1 tc1 te σ2 ys H4 λσ3 zs H5=>∃m',m'<m∧W (i+1) m' σ3 zs H5
    else ∃m',m'<m∧W (i+1) m' σ2 ys H3))
section
variable{p:Addr}{ks:List Str}
theorem Sk(I:Inv X pins σ H s)(f:Hm X pins H p)(T:TxSet X.prog X.w s.heap p ks):Inv X (pins++IN [p] s.heap) σ H s:=
 I.pinned (λb hb=>by rw[Ae.mp hb];exact f) (λb hb=>by rw[Ae.mp hb];exact Ou T)
theorem Na{s':Shared}{σ':St}{H':Hp}(I:Inv X (pins++IN [p] s.heap) σ' H' s')(f:Hm X pins H p)(T:TxSet X.prog X.w s.heap p ks):Inv X pins σ' H' s'∧Hm X pins H' p∧TxSet X.prog X.w s'.heap p ks:=by obtain⟨o,ho,_⟩:=Ou T;have hp:=I.pin (p,o) (Aj _ (Aj _ (Jt (Ae.mpr rfl) ho)));exact⟨I.unpinned,⟨hp.2.1,f.2⟩,T.kept λo' e=>by rw[ho] at e;cases e;exact hp.1⟩
theorem Q9(f:Hm X pins H b)(n:b≠p):Hm X (pins++IN [p] h) H b:=by
 obtain⟨f0,f1,f2,f3,f4,f5⟩:=f;refine⟨f0,f1,f2,f3,f4,λq hq=>?_⟩;rcases As.mp hq with z | z
 · exact f5 q (Bu _ z)
 · rcases As.mp z with z | z
   · exact f5 q (Aj _ z)
   · have:=(OJ z).1;rw[Ae.mp this];exact n.symm
theorem V9{elt t0 i0 t1 i1:Expr}{f0 f1:List Expr}{scope:Scope}{pos:Pos}{g1:TG}{tc1:TT}{te:TE}{J:It}{it:Addr}{fp:List Addr}{tn:Nat→Heap→Prop}{M:St→List Str→Hp→Prop}
 (hc:X.calm=true) (hx:X.xe=λ_ _=>False) (hg:PG X t1 g1) (ht:HP X f1 tc1) (he:PE X elt te) (I:Inv X pins σ H s) (T:Turn X.prog X.w X.K t1 J fp it tn) (st:tn 0 s.heap) (hf:∀b∈fp,Hm X pins H b) (hnp:p ∉ fp) (fp0:Hm X pins H p) (Tx:TxSet X.prog X.w s.heap p ks) (hw:QB J g1 tc1 te σ ks H M):
 codeAny (model X.prog X.w) X.A (.compStart (.SetComp elt [⟨t0,i0,f0,0⟩,⟨t1,i1,f1,0⟩] scope pos) 1 (.ref it) (.ref p) X.env) (λr s'=>r= .ok .next∧∃σ' zs H',Inv X pins σ' H' s'∧Hm X pins H' p∧TxSet X.prog X.w s'.heap p zs∧M σ' zs H') s:=by
 obtain⟨W,⟨m0,w0⟩,turn⟩:=hw;have nep:∀b∈fp,b≠p:=λb hb z=>hnp (z ▸ hb);have stat:∀{H':Hp}{h:Heap},(∀b∈fp,H' b=none)→∀b∈fp,Hm X (pins++IN [p] h) H' b:=λhn b hb=>Q9 ⟨hn b hb,(hf b hb).2⟩ (nep b hb);have loop:codeAny (model X.prog X.w) X.A (.compLoop (.SetComp elt [⟨t0,i0,f0,0⟩,⟨t1,i1,f1,0⟩] scope pos) 1 (.ref it) (.ref p) X.env) (λr s'=>r= .ok .next∧∃σ' zs H',Inv X pins σ' H' s'∧Hm X pins H' p∧TxSet X.prog X.w s'.heap p zs∧M σ' zs H') s:=by
  refine Uu (λn s'=>∃i σ' ys H',Inv X pins σ' H' s'∧tn i s'.heap∧(∀b∈fp,H' b=none)∧Hm X pins H' p∧TxSet X.prog X.w s'.heap p ys∧W i n σ' ys H') ?_ m0 ⟨0,σ,ks,H,I,st,λb hb=>(hf b hb).1,fp0,Tx,w0⟩;rintro n s5 ⟨i,σ5,zs,H5,I5,st5,fr5,fp5,T5,w5⟩;have I5p:=Sk I5 fp5 T5;rcases turn i n σ5 zs H5 w5 with⟨stop,qn⟩ | ⟨go,hz,step⟩
  · refine Hj (T.done X rfl rfl rfl hc i _ s5 σ5 H5 (λ_ _=>False) I5p (stat fr5) st5 stop) λr s6 ⟨hr,I6⟩=>?_;subst hr;obtain⟨I6',f6,T6⟩:=Na I6 fp5 T5;exact⟨rfl,σ5,zs,H5,I6',f6,T6,qn⟩
  · refine Hj (T.item X rfl rfl rfl hc i _ s5 σ5 H5 (λ_ _=>False) I5p (stat fr5) st5 go) λr s6 ⟨u,hr,h6⟩=>?_;subst hr;refine Hj h6 λ_ s7 ⟨x,H7,I7,r7,y7,st7,fr7⟩=>?_;have I7':=I7.pinned (stat fr7) (T.obj _ _ st7);have G:=hg _ s7 σ5 H7 x u _ I7' r7 (step x H7 y7);rw[hx] at G;refine Hj G λ_ s8 ⟨σ8,H8,I8,q8⟩=>?_;have Tt:=ht _ s8 σ8 H8 _ I8 q8;rw[hx] at Tt;refine Hj Tt λb s9 ⟨H9,I9,q9⟩=>?_;have again:∀{s':Shared}{H':Hp},Inv X (pins++IN [p] s5.heap++IN fp s7.heap) σ8 H' s'→tn (i+1) s'.heap∧(∀b∈fp,H' b=none)∧Inv X pins σ8 H' s'∧Hm X pins H' p∧TxSet X.prog X.w s'.heap p zs:=λ{s' H'}I'=>by
     obtain⟨a1,a2,a3⟩:=Na I'.unpinned fp5 T5;refine⟨T.keep _ _ _ st7 λb hb o e=>(I'.pin (b,o) (Aj _ (Aj _ (Jt hb e)))).1,λb hb=>?_,a1,a2,a3⟩;obtain⟨o,e,d⟩:=T.obj _ _ st7 b hb;exact(I'.pin (b,o) (Aj _ (Aj _ (Jt hb e)))).2.1
    cases b with
    | false=> obtain⟨m',hm,w'⟩:=q9;obtain⟨a1,a2,a3,a4,a5⟩:=again I9;exact⟨m',hm,i+1,σ8,zs,H9,a3,a1,a2,a4,a5,w'⟩
    | true=> have Ee:=he _ s9 σ8 H9 _ I9 q9;rw[hx] at Ee;show wpAny _ _ _ _ _ _;refine Hj Ee λxv s10 ⟨y,H10,I10,r10,k,hk,q10⟩=>?_;subst hk;obtain⟨tk,rfl⟩:=(show ∃t,xv=Value.str k t from r10);obtain⟨a1,a2,a3,a4,a5⟩:=again I10;refine XS a5 (by unfold scanBound;omega) λh' zs' sb T' l m=>?_;obtain⟨m',hm,w'⟩:=q10 zs' l m T'.nodup;obtain⟨g0,g1',g2,g3,g4,g5⟩:=a4;refine⟨m',hm,i+1,σ8,zs',H10,a3.turned (t':=s10.toks+1) (λb o hb e=>(sb.2 b hb).trans e) g0 g1' g3 g4 g5,T.keep _ _ _ a1 λb hb o e=>(sb.2 b (nep b hb)).trans e,a2,⟨g0,g1',g2,g3,g4,g5⟩,T',w'⟩
 exact Rc 1 (.inr rfl) loop (T.self _ 0 _ _ _ st loop)
end
section
variable{tg iter tg1 iter1 elt:Expr}{ifs ifs1:List Expr}{wi wi1:TI}{js:Im}{g g1:TG}{tc tc1:TT}{te:TE}{N':List Str}
theorem Wx{pins:List (Addr×Obj)}{σ:St}{H:Hp}{s:Shared}{E:Value→Shared→Prop}{M:List Str→Hp→Prop}{J:It}{it:Addr}{fp:List Addr}{tn:Nat→Heap→Prop}{cl:List (Str×Addr)}
 (hc:X.calm=true) (ok:CapOk X N' js scope) (hs1:∀(e:Env)x,Bb iter1 e x=pure x)
 (h2:∀x c,cl.lookup x=some c→X.env.cells.lookup x=some c) (h3:∀p∈scope.names,p.2= .free→(cl.lookup p.1).isSome=true)
 (hg:∀cl C s₀ H₀ ex,PG (HM X N' scope cl C s₀ H₀ ex) tg g) (ht:∀cl C s₀ H₀ ex,HP (HM X N' scope cl C s₀ H₀ ex) ifs tc) (hi1:∀cl C s₀ H₀ ex,PI (HM X N' scope cl C s₀ H₀ ex) tg1 iter1 wi1) (hg1:∀cl C s₀ H₀ ex,PG (HM X N' scope cl C s₀ H₀ ex) tg1 g1) (ht1:∀cl C s₀ H₀ ex,HP (HM X N' scope cl C s₀ H₀ ex) ifs1 tc1) (he:∀cl C s₀ H₀ ex,PE (HM X N' scope cl C s₀ H₀ ex) elt te)
 (I:Inv X pins σ H s) (T:Turn X.prog X.w X.K tg J fp it tn) (st:tn 0 s.heap) (hf:∀b∈fp,Hm X pins H b)
 (hw:Of J js g tc wi1 g1 tc1 te σ H M):
 wpAny (model X.prog X.w) X.A (newSet (.type "set")) (λacc s₃=>wpAny (model X.prog X.w) X.A (newFunctionEnv scope X.env.globals cl [] X.env.qual none .none (some X.env)) (λcenv s₄=>
  codeAny (model X.prog X.w) X.A (.compStart (.SetComp elt [⟨tg,iter,ifs,0⟩,⟨tg1,iter1,ifs1,0⟩] scope pos) 0 (.ref it) acc {cenv with scope:=relabel scope X.env})
   (λr s'=>r= .ok .next∧(∃m,s'.heap.Ns cenv.locals m)∧∃p ks H',acc= .ref p∧p≠cenv.locals∧Inv X pins σ H' s'∧Hm X pins H' cenv.locals∧TxSet X.prog X.w s'.heap p ks∧M ks H') s₄) E s₃) E s:=by
 have objs:=T.obj _ _ st;refine Wm ?_;obtain⟨W,⟨m0,w0⟩,turn⟩:=hw;have fpP:Hm X pins H s.heap.objs.size:=I.fpOk (Ag _) (I.hok.fresh (Ag _));have kp:∀b u,s.heap.get? b=some u→(s.heap.push {cls:= .type "set",dict:=none,data:= .set #[] 0 (.fresh 0 0 (!HQ X.w))}).get? b=some u:=λb u e=>Ad _ e;have T3:TxSet X.prog X.w (s.heap.push {cls:= .type "set",dict:=none,data:= .set #[] 0 (.fresh 0 0 (!HQ X.w))}) s.heap.objs.size []:=WX (Ao s.heap rfl);have lt0:s.heap.objs.size<(s.heap.push {cls:= .type "set",dict:=none,data:= .set #[] 0 (.fresh 0 0 (!HQ X.w))}).objs.size:=Am (Ao s.heap (o:={cls:= .type "set",dict:=none,data:= .set #[] 0 (.fresh 0 0 (!HQ X.w))}) rfl);have I3:Inv X pins σ H {s with heap:=s.heap.push {cls:= .type "set",dict:=none,data:= .set #[] 0 (.fresh 0 0 (!HQ X.w))}}:=I.kept (t':=s.toks) kp
 generalize hp:s.heap.objs.size=p at*;have fne:∀b∈fp,b≠p:=λb hb=>by obtain⟨o,e,_⟩:=objs b hb;have:=Am e;rw[←hp];exact Ar this
 have hf3:∀b∈p::fp,Hm X pins H b:=λb hb=>(Al.mp hb).elim (λz=>z ▸ fpP) (hf b);have st3:tn 0 (s.heap.push {cls:= .type "set",dict:=none,data:= .set #[] 0 (.fresh 0 0 (!HQ X.w))}):=T.keep _ _ _ st λb _ o e=>kp b o e;have lt3:∀b∈p::fp,b<(s.heap.push {cls:= .type "set",dict:=none,data:= .set #[] 0 (.fresh 0 0 (!HQ X.w))}).objs.size:=λb hb=>by
  rcases Al.mp hb with rfl | hb
  · exact lt0
  · obtain⟨o,e,_⟩:=objs b hb;exact Am (kp b o e)
 generalize hs3:({s with heap:=s.heap.push {cls:= .type "set",dict:=none,data:= .set #[] 0 (.fresh 0 0 (!HQ X.w))}}:Shared)=s3 at*
 have eh:s.heap.push {cls:= .type "set",dict:=none,data:= .set #[] 0 (.fresh 0 0 (!HQ X.w))}=s3.heap:=by rw[←hs3]
 rw[eh] at st3 lt3 T3 lt0;refine Nz ok.cells λcl h₁ hns₁ k4 oc=>?_;have I4:=Nt (cl:=cl) (h₁:=h₁) (t':=s3.toks+([]:List (Str×Value)).length) ok I3 h2 h3 hf3 lt3 k4 hns₁ oc;have T4:TxSet X.prog X.w h₁ p []:=T3.kept λo e=>k4 p o e;have st4:tn 0 h₁:=T.keep _ _ _ st3 λb _ o e=>k4 b o e;generalize hX:HM X N' scope cl s3.heap.objs.size s3 H (p::fp)=X' at I4;have hg':PG X' tg g:=by rw[←hX];exact hg _ _ _ _ _
 have ht':HP X' ifs tc:=by rw[←hX];exact ht _ _ _ _ _
 have he':PE X' elt te:=by rw[←hX];exact he _ _ _ _ _
 have hi1':PI X' tg1 iter1 wi1:=by rw[←hX];exact hi1 _ _ _ _ _
 have hg1':PG X' tg1 g1:=by rw[←hX];exact hg1 _ _ _ _ _
 have ht1':HP X' ifs1 tc1:=by rw[←hX];exact ht1 _ _ _ _ _
 have hs1':∀x,Bb iter1 (compEnvC scope cl s3.heap.objs.size X.env) x=pure x:=hs1 _;have eP:X'.prog=X.prog:=by rw[←hX];rfl
 have ew:X'.w=X.w:=by rw[←hX];rfl
 have eK:X'.K=X.K:=by rw[←hX];rfl
 have ec:X'.calm=true:=by rw[←hX];exact hc
 have eA:X'.A=X.A:=by rw[←hX];rfl
 have ex:X'.xe=λ_ _=>False:=by rw[←hX];rfl
 have eE:X'.env=compEnvC scope cl s3.heap.objs.size X.env:=by rw[←hX];rfl
 have eEx:X'.ex=p::fp:=by rw[←hX];rfl
 have eN:X'.pn=[]:=by rw[←hX];rfl
 have stat:∀{H':Hp}{b:Addr},b∈p::fp→H' b=none→Hm X' [] H' b:=λ{H' b}hb hn=>by have okc:=I4.ok;refine⟨hn,(okc.exf b (by rw[eEx];exact hb)).1,okc.exfs b (by rw[eEx];exact hb),.inl (by rw[eEx];exact hb),(okc.exf b (by rw[eEx];exact hb)).2,λq hq=>?_⟩;rw[eN] at hq;cases hq
 have loop:∀s₄:Shared,s₄={s3 with heap:=h₁,toks:=s3.toks+([]:List (Str×Value)).length}→
  codeAny (model X.prog X.w) X.A (.compLoop (.SetComp elt [⟨tg,iter,ifs,0⟩,⟨tg1,iter1,ifs1,0⟩] scope pos) 0 (.ref it) (.ref p) (compEnvC scope cl s3.heap.objs.size X.env))
   (λr s'=>r= .ok .next∧(∃m,s'.heap.Ns s3.heap.objs.size m)∧∃p' ks H',Value.ref p= .ref p'∧p'≠s3.heap.objs.size∧Inv X pins σ H' s'∧Hm X pins H' s3.heap.objs.size∧TxSet X.prog X.w s'.heap p' ks∧M ks H') s₄:=by
  rintro s₄ rfl;have wpin:∀{h:Heap}{H':Hp},(∀b∈fp,H' b=none)→∀b∈fp,Hm X' ([]++IN [p] h) H' b:=λ{h H'}hn b hb=>Q9 (stat (AE _ hb) (hn b hb)) (fne b hb);refine Ut hs1' (λn s'=>∃i σ' ys H',Inv X' [] σ' H' s'∧tn i s'.heap∧(∀b∈fp,H' b=none)∧Hm X' [] H' p∧TxSet X'.prog X'.w s'.heap p ys∧W i n σ' ys H') ?_ m0 ⟨0,_,[],_,I4,st4,λb hb=>(hf b hb).1,stat AD fpP.1,by rw[eP,ew];exact T4,w0⟩;rintro n s5 ⟨i,σ5,ys,H5,I5,st5,fr5,fp5,T5,w5⟩;have I5p:=Sk I5 fp5 T5;rcases turn i n σ5 ys H5 w5 with⟨stop,qn⟩ | ⟨go,step⟩
  · have D:=T.done X' eP ew eK ec i _ s5 σ5 H5 (λ_ _=>False) I5p (wpin fr5) st5 stop;rw[eA] at D;refine Hj D λr s6 ⟨hr,I6p⟩=>?_;subst hr;obtain⟨I6,f6,T6⟩:=Na I6p fp5 T5;refine⟨rfl,?_,p,ys,H5,rfl,Ar lt0,?_,?_,by rw[eP,ew] at T6;exact T6,qn⟩
    · obtain⟨m,hm,_⟩:=I6.loc;rw[eE] at hm;exact⟨m,hm⟩
    · have b6:=I6.base;have ho:=I6.os;have hk:=I6.hok;have hb:=I6.bare;subst hX;exact I3.call' (ch:=p::fp) ho b6 hk hb λb hb'=>⟨(hf3 b hb').2.2.2.1,(hf3 b hb').2.1,(hf3 b hb').2.2.2.2.1,(hf3 b hb').2.2.2.2.2⟩
    · have fr:=I6.free;rw[eE] at fr;exact I3.fpOk (Ag _) fr
  · have D:=T.item X' eP ew eK ec i _ s5 σ5 H5 (λ_ _=>False) I5p (wpin fr5) st5 go;rw[eA] at D;refine Hj D λr s6 ⟨u,hr,h6⟩=>?_;subst hr;refine Hj h6 λ_ s7 ⟨x,H7,I7,r7,y7,st7,fr7⟩=>?_;have I7':=I7.pinned (wpin fr7) (T.obj _ _ st7);have G:=hg' _ s7 σ5 H7 x u _ I7' r7 (step x H7 y7);rw[eP,ew,eA,ex,eE] at G;refine Hj G λ_ s8 ⟨σ8,H8,I8,q8⟩=>?_;have Tt:=ht' _ s8 σ8 H8 _ I8 q8;rw[eP,ew,eA,ex,eE] at Tt;refine Hj Tt λb s9 ⟨H9,I9,q9⟩=>?_;have again:∀{s':Shared}{σ8:St}{ys':List Str}{H':Hp},Inv X' ([]++IN fp s7.heap) σ8 H' s'→Hm X' [] H' p→TxSet X'.prog X'.w s'.heap p ys'→(∃m',m'<n∧W (i+1) m' σ8 ys' H')→
     ∃m,m<n∧∃i σ' ys H',Inv X' [] σ' H' s'∧tn i s'.heap∧(∀b∈fp,H' b=none)∧Hm X' [] H' p∧TxSet X'.prog X'.w s'.heap p ys∧W i m σ' ys H':=λ{s' σ8 ys' H'}I' f' T' ⟨m',hm,w'⟩=>by
     refine⟨m',hm,i+1,σ8,ys',H',I'.unpinned,T.keep _ _ _ st7 λb hb o e=>(I'.pin (b,o) (Aj _ (Aj _ (Jt hb e)))).1,λb hb=>?_,f',T',w'⟩;obtain⟨o,e,d⟩:=T.obj _ _ st7 b hb;exact(I'.pin (b,o) (Aj _ (Aj _ (Jt hb e)))).2.1
    have drop:∀{s':Shared}{σ8:St}{H':Hp},Inv X' ([]++IN [p] s5.heap++IN fp s7.heap) σ8 H' s'→Inv X' ([]++IN fp s7.heap) σ8 H' s'∧Hm X' [] H' p∧TxSet X'.prog X'.w s'.heap p ys:=λ{s' σ8 H'}I'=>by obtain⟨a1,a2,a3⟩:=Na I'.unpinned fp5 T5;exact⟨I'.pins_of λq hq=>I'.pin q (Aj _ ((As.mp hq).elim (λz=>nomatch z) λz=>Aj _ z)),a2,a3⟩
    cases b with
    | false=> obtain⟨a1,a2,a3⟩:=drop I9;exact again a1 a2 a3 q9
    | true=>
     have Ei:=hi1' _ s9 σ8 H9 _ I9 q9;rw[eP,ew,eA,ex,eE] at Ei;show wpAny _ _ _ _ _ _;refine Hj Ei λxv s10 h10=>Hj h10 λitv s11 h11=>?_;obtain⟨it1,fp1,tn1,J1,H11,e11,I11,T1,st11,f11,hw11⟩:=h11;subst e11;obtain⟨a1,a2,a3⟩:=drop I11;obtain⟨o5,ho5,_⟩:=Ou T5;have npp:p ∉ fp1:=λhb=>(f11 p hb).2.2.2.2.2 (p,o5) (Aj _ (Bu _ (Aj _ (Jt (Ae.mpr rfl) ho5)))) rfl;have f11':∀b∈fp1,Hm X' ([]++IN fp s7.heap) H11 b:=λb hb=>by
      obtain⟨g0,g1',g2,g3,g4,g5⟩:=f11 b hb;refine⟨g0,g1',g2,g3,g4,λq hq=>g5 q ?_⟩;rcases As.mp hq with z | z
      · exact Bu _ z
      · exact Aj _ ((As.mp z).elim (λz=>nomatch z) λz=>Aj _ z)
     have a2':Hm X' ([]++IN fp s7.heap) H11 p:=by
      obtain⟨g0,g1',g2,g3,g4,g5⟩:=a2;refine⟨g0,g1',g2,g3,g4,λq hq=>?_⟩;rcases As.mp hq with z | z
      · exact g5 q (Bu _ z)
      · have:=(OJ ((As.mp z).elim (λz=>nomatch z) id)).1;exact fne _ this
     have In:=V9 (X:=X') (elt:=elt) (t0:=tg) (i0:=iter) (t1:=tg1) (i1:=iter1) (f0:=ifs) (f1:=ifs1) (scope:=scope) (pos:=pos) ec ex hg1' ht1' he' a1 T1 st11 f11' npp a2' a3 hw11;rw[eP,ew,eA,eE] at In;refine Cm In λr s12 ⟨hr,σ12,zs,H12,I12,f12,T12,m12⟩=>⟨hr,?_⟩;exact again I12 (stat AD f12.1) (by rw[eP,ew];exact T12) m12
 exact Rc 0 (.inl rfl) (loop _ rfl) (T.self _ 0 _ _ _ st4 (loop _ rfl))
def VX(wi:TI)(js:Im)(g:TG)(tc:TT)(wi1:TI)(g1:TG)(tc1:TT)(te:TE):TE:=λσ H Q=>wi σ H λJ H1=>Of J js g tc wi1 g1 tc1 te σ H1 λks H2=>ks.length<64∧
 ∀(p:Addr)(ms:List Str),ms.Perm ks→ms.Nodup→sortedS ms=true→H2 p=none→Q (.ref p) (Hh H2 p (.lst (ms.map V.str)))
theorem WM{p4 pos':Pos}(hg0:Gl X "sorted")(hm0:X.mg "sorted"=none)(hc:X.calm=true)(ok:CapOk X N' js scope)(hi:PI X tg iter wi)
 (hg:∀cl C s₀ H₀ ex,PG (HM X N' scope cl C s₀ H₀ ex) tg g) (ht:∀cl C s₀ H₀ ex,HP (HM X N' scope cl C s₀ H₀ ex) ifs tc) (hi1:∀cl C s₀ H₀ ex,PI (HM X N' scope cl C s₀ H₀ ex) tg1 iter1 wi1) (hg1:∀cl C s₀ H₀ ex,PG (HM X N' scope cl C s₀ H₀ ex) tg1 g1) (ht1:∀cl C s₀ H₀ ex,HP (HM X N' scope cl C s₀ H₀ ex) ifs1 tc1) (he:∀cl C s₀ H₀ ex,PE (HM X N' scope cl C s₀ H₀ ex) elt te)
 (hs:∀x,Bb iter X.env x=pure x:=by intro _;rfl) (hs1:∀(e:Env)x,Bb iter1 e x=pure x:=by intro _ _;rfl)
 (h2:AL [.SetComp elt [⟨tg,iter,ifs,0⟩,⟨tg1,iter1,ifs1,0⟩] scope pos'] X.env=(false,eval (.SetComp elt [⟨tg,iter,ifs,0⟩,⟨tg1,iter1,ifs1,0⟩] scope pos') X.env)::AL [] X.env:=by rfl)
 (h4:(backTo pos (AL [] X.env)).any (·.1)=false:=by rfl):
 PE X (.Call (.Name "sorted" p4) [.SetComp elt [⟨tg,iter,ifs,0⟩,⟨tg1,iter1,ifs1,0⟩] scope pos'] [] pos) (VX wi js g tc wi1 g1 tc1 te):=by
 intro pins s σ H Q I h;refine BU (JZ I hg0 hm0 Op ?_ (by decide) (by decide));refine Ef ?_ h2 h4;rw[h2];show wpAny _ _ (spliced ((false,eval (.SetComp elt [⟨tg,iter,ifs,0⟩,⟨tg1,iter1,ifs1,0⟩] scope pos') X.env)::backTo pos (AL [] X.env))) _ _ s;refine DD ?_;obtain⟨cl,c1,c2,c3⟩:=Ma (scope:=scope) I.ok.has ok.free;rw[arm_eval_SetComp];refine CA (use:=none) rfl hs c1 ok.kind ok.names (Hj (hi pins s σ H _ I h) λv s1 h1=>Hj h1 λitv s2 h2=>?_);obtain⟨it,fp,tn,J,H2,e,I2,T,st2,f2,hw⟩:=h2;subst e;refine AA (Wx (iter:=iter) (pos:=pos') hc ok hs1 c2 c3 hg ht hi1 hg1 ht1 he I2 T st2 f2 hw) (λacc s3 h3=>AA h3 (λcenv s4 h4=>?_) λ_ _ z=>z) λ_ _ z=>z;refine Cm h4 λr s5 h5=>?_;obtain⟨rfl,⟨m,hm⟩,p,ks,H5,rfl,npl,I5,f5,T5,h64,q5⟩:=h5;refine⟨m,hm,λh' sb=>?_⟩;obtain⟨f0,f1,_,f3,f4,f6⟩:=f5;have I6:Inv X pins σ H5 {s5 with heap:=h',toks:=s5.toks}:=I5.turned (t':=s5.toks) (λb o hb e=>(sb.2 b hb).trans e) f0 f1 f3 f4 f6
 have T6:TxSet X.prog X.w h' p ks:=T5.kept λo e=>(sb.2 p npl).trans e;refine EN ?_;refine Xs (s:={s5 with heap:=h'}) (I.ok.hd hc) T6 h64 λp' h2 d2 tk2 out ms ee a1 a2 a3 a4 a5 a6=>?_
 have hn1:H5 p'=none:=I6.hok.fresh a4;have I7:Inv X pins σ H5 {s5 with heap:=h',drawn:=d2,toks:=s5.toks}:=⟨I6.ok,I6.os,I6.bare,I6.base,I6.loc,I6.cell,I6.free,I6.freeC,I6.pin,I6.hok,I6.len⟩
 refine⟨.ref p',Hh H5 p' (.lst (ms.map V.str)),I7.laid (t':=tk2) a6 a4 ?_,rfl,q5 p' ms a2 (a2.nodup_iff.mpr T6.nodup) a3 hn1⟩;have hlen:ms.length<64:=by rw[a2.length_eq];exact h64
 exact⟨by rw[Ab,sizeLine_eq];omega,out.toList,ee,N6 a1,by simpa [seqObj] using a5⟩
end
open PySem.AutoSeq1 (wpAny_loadPart')
theorem Vy(l:Addr)(xs:Array Value):
 Meets (Builtin.«enumerate.__new__» ⟨[.type "enumerate",.ref l],[]⟩) (λ_ R s=>s.heap.IsTuple l xs∧R (.ok (.ret (.ref (s.heap.push {cls:= .type "tuple_iterator",data:= .fields #[.ref l,.int 0 0]}).objs.size)))
  {s with heap:=(s.heap.push {cls:= .type "tuple_iterator",data:= .fields #[.ref l,.int 0 0]}).push {cls:= .type "enumerate",data:= .fields #[.none,.bool false,.ref s.heap.objs.size,rawInt 0,.none,.none]}}):=
 .of_wp λprog w A R s h=>by
  obtain⟨hp,g,d,tk,os⟩:=s;have f0:=sub_enumerate;have f1:Heap.IsTuple (Shared.heap ⟨hp,g,d,tk,os⟩) l xs:=h.1
  wp_walk
  refine wpAny_stack_any λst=>Ac ?_
  split
  · rename_i c _ _ _ _ _;by_cases hc:(c==Value.type "enumerate")=true
    · rw[hc]
      wp_walk using CO f1
      exact⟨_,rfl,h.2⟩
    · have hc':(c==Value.type "enumerate")=false:=by simpa using hc
      rw[hc']
      wp_walk using CO f1
      exact⟨_,rfl,h.2⟩
  · wp_walk using CO f1
    exact⟨_,rfl,h.2⟩
section
variable{it l e:Addr}{xs:Array Value}{x old:Value}
theorem Uf{Q:Value→Shared→Prop}(hi:s.heap.IsTupleIter it l i)(hl:s.heap.IsTuple l xs)(hx:xs[i]?=some x)
 (q:∀h',h'.IsTupleIter it l (i+1)→Bp it s.heap h'→Q x {s with heap:=h'}):wpAny (model prog w) A (AV (.ref it)) Q E s:=by
 obtain⟨o,h1,h2,h3⟩:=id hi;obtain⟨u,g1,_,n,g2⟩:=hl;unfold AV;refine Aa (AW (name:=Cc "__next__") hi.typeIs Bj (AY Bj hi.typeIs Cz ?go (Cv _)))
 case go=> show wpAny _ _ (field (Value.ref it) 0>>=_) _ _ s;refine Aa (AS h1 h3 (x:= .ref l) rfl ?_);rw[if_neg (by intro z;cases z)];show wpAny _ _ (field (Value.ref it) 1>>=_) _ _ s;refine Aa (AS h1 h3 (x:= .int i 0) rfl ?_);show wpAny _ _ (seqItems? (Value.ref l)>>=_) _ _ s;refine Aa (A_ g1 g2 ?_);simp only[Bc,hx];refine Aa (BG h1 h3 (by simp) (Ac ⟨x,rfl,Ac (q _ ⟨_,Ba _ h1 (FA (DJ h3 _)),(Obj.cls_mapFields ..).trans h2,?_⟩ (AZ ..))⟩));rw[DJ h3];simp[rawInt]
theorem XA{Q:Value→Shared→Prop}(hh:A.handled=none)(hi:s.heap.IsTupleIter it l i)(hl:s.heap.IsTuple l xs)(hx:xs[i]?=none)
 (q:∀h' e,DS it s.heap h'→(∃o,h'.get? e=some o∧o.cls= .type "StopIteration")→E (.ref e) {s with heap:=h'}):wpAny (model prog w) A (AV (.ref it)) Q E s:=by
 obtain⟨o,h1,h2,h3⟩:=id hi;obtain⟨u,g1,_,n,g2⟩:=hl;unfold AV;refine Aa (AW (name:=Cc "__next__") hi.typeIs Bj (AY Bj hi.typeIs Cz ?go (Cv _)))
 case go=>
  show wpAny _ _ (field (Value.ref it) 0>>=_) _ _ s;refine Aa (AS h1 h3 (x:= .ref l) rfl ?_);rw[if_neg (by intro z;cases z)];show wpAny _ _ (field (Value.ref it) 1>>=_) _ _ s;refine Aa (AS h1 h3 (x:= .int i 0) rfl ?_);show wpAny _ _ (seqItems? (Value.ref l)>>=_) _ _ s;refine Aa (A_ g1 g2 ?_);simp only[Bc,hx];refine Aa (BN (Aa (BG h1 h3 (by simp) ?_)));show wpAny _ _ (newExc (Value.type "StopIteration") []>>=_) _ _ _;refine Aa ?_;unfold newExc newTuple;refine Aa (AR ?_ (by size_fits));refine Aa (m:=firstArgMember _ _) (DQ (a:=Value.none) (by first | rfl | (simp only[firstArgMember];rfl)) ?_)
  refine AR ?_ (by size_fits);unfold raiseNew;refine Aa (wpAny_handled ?_)
  first | rw[show A.in1.handled=none from hh] | rw[hh]
  exact Aa (Ac (wpAny_throw (q _ _ (((AZ ..).extBut.push _).push _) ⟨_,Ao _ rfl,rfl⟩)))
theorem Xd{Q:Option Value→Shared→Prop}(he:IsEnum s.heap e it i old)(hi:s.heap.IsTupleIter it l i)(hl:s.heap.IsTuple l xs)(hx:xs[i]?=some x)(ne:e≠it)
 (q:∀h',IsEnumOut h' e it ((i:Int)+1) x s.heap.objs.size→h'.IsTupleIter it l (i+1)→h'.get? s.heap.objs.size=some {cls:= .type "tuple",data:= .seq #[.int i s.toks,x]}→
  (∀b o,b≠e→b≠it→s.heap.get? b=some o→h'.get? b=some o)→Q (some (.ref s.heap.objs.size)) {s with heap:=h',toks:=s.toks+1}):
 wpAny (model prog w) A (pyNext (.ref e)) Q E s:=by
 have ty:s.TypeIs (.ref e) "enumerate":=⟨_,he,rfl⟩;unfold pyNext;refine Aa (Dz (AW (name:=Cc "__next__") ty CU (AY CU ty Ey ?go (Eo _))))
 case go=>
  obtain⟨hp,g,d,tk,os⟩:=s;have lte:e<hp.objs.size:=Am he;have nT:hp.objs.size≠e:=C7 lte;show wpAny _ _ (field (Value.ref e) 2>>=_) _ _ _;refine Aa (AS he rfl (x:= .ref it) rfl ?_);refine Aa (Uf hi hl hx λk1 i1 b1=>?_)
  replace b1:Bp it hp k1:=b1
  have e1:IsEnum k1 e it i old:=(b1.2 e ne).trans he;show wpAny _ _ (field (Value.ref e) 3>>=_) _ _ ⟨k1,g,d,tk,os⟩;refine Aa (AS e1 rfl (x:=rawInt i) rfl ?_);show wpAny _ _ (field (Value.ref e) 4>>=_) _ _ ⟨k1,g,d,tk,os⟩;refine Aa (AS e1 rfl (x:= .none) rfl ?_);show wpAny _ _ (mkInt i>>=_) _ _ ⟨k1,g,d,tk,os⟩;refine Aa (wpAny_mkInt ?_);show wpAny _ _ (setField (Value.ref e) 3 (rawInt ((i:Int)+1))>>=_) _ _ ⟨k1,g,d,tk+1,os⟩;refine Aa (Bx e1 (by simp) λk2 e2 b2=>?_)
  replace b2:Bp e k1 k2:=b2
  replace e2:IsEnum k2 e it ((i:Int)+1) old:=e2
  show wpAny _ _ (setField (Value.ref e) 4 .none>>=_) _ _ ⟨k2,g,d,tk+1,os⟩;refine Aa (Bx e2 (by simp) λk3 e3 b3=>?_)
  replace b3:Bp e k2 k3:=b3
  replace e3:IsEnum k3 e it ((i:Int)+1) old:=e3
  show wpAny _ _ (newTuple [.int i tk,x]>>=_) _ _ ⟨k3,g,d,tk+1,os⟩;refine Aa (FB ?_);have z3:k3.objs.size=hp.objs.size:=by rw[b3.1,b2.1,b1.1]
  have k13:∀b o,b≠e→k1.get? b=some o→k3.get? b=some o:=λb o n h=>b3.extBut b o n (b2.extBut b o n h);have e4:IsEnum (k3.push {cls:= .type "tuple",data:= .seq #[.int i tk,x]}) e it ((i:Int)+1) old:=Ad _ e3;have t4:(k3.push {cls:= .type "tuple",data:= .seq #[.int i tk,x]}).get? hp.objs.size=some {cls:= .type "tuple",data:= .seq #[.int i tk,x]}:=by rw[←z3];exact Ao _ rfl
  have k4:∀b o,b≠e→k1.get? b=some o→(k3.push {cls:= .type "tuple",data:= .seq #[.int i tk,x]}).get? b=some o:=λb o n h=>Ad _ (k13 b o n h);show wpAny _ _ (Br (.ref e)>>=_) _ _ ⟨k3.push {cls:= .type "tuple",data:= .seq #[.int i tk,x]},g,d,tk+1,os⟩;rw[z3];generalize k3.push {cls:= .type "tuple",data:= .seq #[.int i tk,x]}=h4 at*;refine Aa ?_;unfold Br;refine Aa (AS e4 rfl (x:= .none) rfl (Ac ?_));rw[if_pos rfl];refine Aa (BN (Aa (AS e4 rfl (x:=old) rfl (Aa (Bx e4 (by simp) λh5 e5 b5=>?_)))))
  replace b5:Bp e h4 h5:=b5
  replace e5:IsEnum h5 e it ((i:Int)+1) x:=e5
  show wpAny _ _ (Cq (.ref e) (.ref hp.objs.size)>>=_) _ _ ⟨h5,g,d,tk+1,os⟩;refine Aa ?_;unfold Cq;refine Aa (Bx e5 (by simp) λh6 e6 b6=>?_)
  replace b6:Bp e h5 h6:=b6
  replace e6:IsEnumOut h6 e it ((i:Int)+1) x hp.objs.size:=e6
  refine Bx e6 (by simp) λh7 e7 b7=>?_
  replace b7:Bp e h6 h7:=b7
  replace e7:IsEnumOut h7 e it ((i:Int)+1) x hp.objs.size:=e7
  have k7:∀b o,b≠e→h4.get? b=some o→h7.get? b=some o:=λb o n h=>b7.extBut b o n (b6.extBut b o n (b5.extBut b o n h));obtain⟨oi,g1,g2⟩:=i1;exact Aa (Cs (Ac ⟨_,rfl,Ac (q h7 e7 ⟨oi,k7 _ _ ne.symm (k4 _ _ ne.symm g1),g2⟩ (k7 _ _ nT t4) λb o n1 n2 h=>k7 b o n1 (k4 b o n1 (b1.extBut b o n2 h)))⟩))
theorem Vx{Q:Option Value→Shared→Prop}(hh:A.handled=none)(he:IsEnum s.heap e it i old)(hi:s.heap.IsTupleIter it l i)(hl:s.heap.IsTuple l xs)(hx:xs[i]?=none)
 (q:∀h',DS it s.heap h'→Q none {s with heap:=h'}):wpAny (model prog w) A (pyNext (.ref e)) Q E s:=by
 have ty:s.TypeIs (.ref e) "enumerate":=⟨_,he,rfl⟩;unfold pyNext;refine Aa (Dz (AW (name:=Cc "__next__") ty CU (AY CU ty Ey ?go (Eo _))))
 case go=> show wpAny _ _ (field (Value.ref e) 2>>=_) _ _ _;refine Aa (AS he rfl (x:= .ref it) rfl (Aa (XA hh hi hl hx λh' x k ⟨o,g1,g2⟩=>?_)));exact Aa (Dw (T:="StopIteration") (b:=true) ⟨o,g1,g2⟩ isSubtype_stop (Ac (q _ k)))
end
def JS(K:Ai)(a:Addr):It:=
 ⟨λk H=>∃(xs:List V)(x:V),SqT K H a xs∧xs[k]?=some x,
  λk H v H'=>∃p,v= .ref p∧H p=none∧∀(xs:List V)(x:V),SqT K H a xs→xs[k]?=some x→H'=Hh H p (.tup [.int k,x]),
  λk H=>∃(xs:List V),SqT K H a xs∧xs.length≤k⟩
theorem WY{P:Bt}{w:World}{K:Ai}{es:List Expr}{kk:Nat}{pos:Pos}(a e it:Addr)(D:e≠it):
 Turn P w K (.Tuple es kk pos) (JS K a) [e,it] e (λk h=>(∃old,IsEnum h e it k old)∧h.IsTupleIter it a k) where
 mem:=by simp
 obj:=λk h st c hc=>by
  obtain⟨⟨old,hz⟩,⟨oi,ei,_,di⟩⟩:=st;simp only[Al,AF,or_false] at hc;rcases hc with rfl | rfl
  · exact⟨_,hz,λv e=>by cases e⟩
  · exact⟨oi,ei,λv e=>by rw[di] at e;cases e⟩
 keep:=λk h h' st kp=>by obtain⟨⟨old,hz⟩,⟨oi,ei,ri⟩⟩:=st;exact⟨⟨old,kp e (by simp) _ hz⟩,⟨oi,kp it (by simp) _ ei,ri⟩⟩
 item:=by
  intro X hP hw hK hc k pins s σ H E I hf st hg;subst hP hw hK;obtain⟨xs,x,q1,hx⟩:=hg;obtain⟨⟨old,hz⟩,h1⟩:=st;obtain⟨its1,r1,g1,_⟩:=I.tuple q1;obtain⟨u1,hu1,v1⟩:=r1.get hx;have fz:=hf e (by simp);have fi:=hf it (by simp);refine Xd hz h1 g1 (by simpa using hu1) D λg a1 a2 a3 a5=>?_;refine⟨_,rfl,EH a1 λg' z' m'=>?_⟩;have zT:e≠s.heap.objs.size:=Ar (Am hz);have up:∀c o,c≠e→g.get? c=some o→g'.get? c=some o:=λc o hc e=>m'.extBut c o hc e;have fr:H s.heap.objs.size=none:=I.hok.fresh (Ag _);have I1:Inv X pins σ (Hh H s.heap.objs.size (.tup [.int k,x])) {s with heap:=g',toks:=s.toks+1}:=by
   refine I.newTup (t':=s.toks+1) [e,it] (λc hc=>?_) (λc o hc e=>?_) (Ag _) ⟨[.int k s.toks,u1],.cons ⟨_,rfl⟩ (.cons v1 .nil),_,up _ _ zT.symm a3,rfl,rfl,_,rfl⟩
   · simp only[Al,AF,or_false] at hc;rcases hc with rfl | rfl
     · exact fz
     · exact fi
   · simp only[Al,AF,or_false,not_or] at hc;exact up c o hc.1 (a5 c o hc.1 hc.2 e)
  obtain⟨oi,ei,ri⟩:=a2;refine⟨.ref s.heap.objs.size,_,I1,rfl,⟨_,rfl,fr,λxs' x' s1 e1=>?_⟩,⟨⟨_,z'⟩,⟨oi,up _ _ D.symm ei,ri⟩⟩,λc hc=>?_⟩
  · rw[I.tuple_inj s1 q1,hx] at e1;cases e1;rfl
  · have fc:=hf c hc;have:c≠s.heap.objs.size:=by
     simp only[Al,AF,or_false] at hc;obtain⟨oi',ei',_⟩:=h1;rcases hc with rfl | rfl
     · exact zT
     · exact Ar (Am ei')
    rw[HC this];exact fc.1
 done:=by
  intro X hP hw hK hc k pins s σ H E I hf st hg;subst hP hw hK;obtain⟨xs,q1,hend⟩:=hg;obtain⟨⟨old,hz⟩,h1⟩:=st;obtain⟨its1,r1,g1,_⟩:=I.tuple q1;have l1:=r1.length;refine Vx (I.ok.hd hc) hz h1 g1 (by simp;omega) λg kp=>?_;refine⟨rfl,I.turnedN (t':=s.toks) [it] (λc hc=>?_) (λc o hc e=>?_)⟩
  · simp only[Al,AF,or_false] at hc;subst hc;exact hf c (by simp)
  · simp only[Al,AF,or_false] at hc;exact kp c o hc e
 self:=λ_ _ _ _ _ st h=>by obtain⟨⟨old,hz⟩,_⟩:=st;exact DN hz h
def Th(K:Ai)(ta:TA):TI:=λσ H R=>ta σ H λvs H1=>∃t,vs=[.ref t]∧(∃xs,SqT K H1 t xs)∧R (JS K t) H1
theorem Vm{es:List Expr}{kk:Nat}{tpos:Pos}{a:Expr}{ta:TA}{p pos:Pos}(hg:Gl X "enumerate")(hm:X.mg "enumerate"=none)(ha:PA X [a] ta)
 (he:AL [a] X.env=(false,eval a X.env)::AL [] X.env:=by rfl) (hpl:(backTo pos (AL [] X.env)).any (·.1)=false:=by rfl):
 PI X (.Tuple es kk tpos) (.Call (.Name "enumerate" p) [a] [] pos) (Th X.K ta):=by
 intro pins s σ H R I h;refine BU (JZ I hg hm SQ ?_ (by decide) (by decide));refine BS (Hj (ha pos pins s σ H _ I h) λus s1 ⟨vs,H1,I1,r1,t,e,⟨xs,q1⟩,q⟩=>?_) he hpl;subst e;obtain⟨u1,rfl,v1⟩:=Jy r1;cases v1;obtain⟨its1,rv1,g0,_⟩:=I1.tuple q1;refine callType_new Fd (by decide) (Ew _) (E5 _) (λobj=>EI obj _) E6 (Vy t its1.toArray) ⟨g0,?_⟩;generalize hh5:((s1.heap.push {cls:= .type "tuple_iterator",data:= .fields #[.ref t,.int 0 0]}).push {cls:= .type "enumerate",data:= .fields #[.none,.bool false,.ref s1.heap.objs.size,rawInt 0,.none,.none]})=h5;have y1:(s1.heap.push {cls:= .type "tuple_iterator",data:= .fields #[.ref t,.int 0 0]}).objs.size=s1.heap.objs.size+1:=Bk ..;have k5:∀c o,s1.heap.get? c=some o→h5.get? c=some o:=λc o e=>by rw[←hh5];exact Ad _ (Ad _ e)
 have e5:IsEnum h5 (s1.heap.objs.size+1) s1.heap.objs.size 0 .none:=by have:=Ao (s1.heap.push {cls:= .type "tuple_iterator",data:= .fields #[.ref t,.int 0 0]}) (o:={cls:= .type "enumerate",data:= .fields #[.none,.bool false,.ref s1.heap.objs.size,rawInt 0,.none,.none]}) rfl;rw[y1,hh5] at this;exact this
 have e1:h5.IsTupleIter s1.heap.objs.size t 0:=by rw[←hh5];exact⟨_,Ad _ (Ao _ rfl),rfl,rfl⟩
 have I2:Inv X pins σ H1 {s1 with heap:=h5}:=I1.kept (t':=s1.toks) k5
 have fp:∀c,s1.heap.objs.size≤c→Hm X pins H1 c:=λc hc=>I1.fpOk hc (I1.hok.fresh hc);show _∧_;rw[y1];refine⟨⟨_,e5,rfl⟩,DN e5 ?_⟩;refine⟨_,_,_,_,H1,rfl,I2,WY t _ _ (C7 (B_ _)),⟨⟨_,e5⟩,e1⟩,λc hc=>fp c ?_,q⟩;simp only[Al,AF,or_false] at hc;rcases hc with rfl | rfl
 · exact De _
 · exact Ag _
theorem V3{g:TG}{tb:TS}{D:Ends}(Pv:Nat→St→Hp→Prop)(h0:Pv 0 σ H)(hl:∀i σ H,i≤xs.length→Pv i σ H→SqT K H a xs)
 (hs:∀i x q σ H,xs[i]?=some x→H q=none→Pv i σ H→g (.ref q) σ (Hh H q (.tup [.int i,x])) λσ2 H2=>tb {D with nx:=Pv (i+1),ct:=Pv (i+1),bk:=D.nx} σ2 H2) (hd:∀σ H,Pv xs.length σ H→D.nx σ H):
 ∃W:Nat→Nat→St→Hp→Prop,(∃m,W 0 m σ H)∧∀i m σ H,W i m σ H→
  ((JS K a).stop i H∧D.nx σ H)∨((JS K a).go i H∧∃N:St→Hp→Prop,(∀σ' H',N σ' H'→∃m',m'<m∧W (i+1) m' σ' H')∧∀x H',(JS K a).yld i H x H'→g x σ H' λσ2 H2=>tb {D with nx:=N,ct:=N,bk:=D.nx} σ2 H2):=by
 refine⟨λi m σ H=>m=xs.length - i∧i≤xs.length∧Pv i σ H,⟨xs.length,by simp,Bo _,h0⟩,?_⟩;rintro i m σ H ⟨rfl,hi,p⟩;have q:=hl i σ H hi p;by_cases hlt:i<xs.length
 · have e1:xs[i]?=some (xs[i]'hlt):=by simp
   refine .inr ⟨⟨xs,_,q,e1⟩,Pv (i+1),λσ' H' p'=>⟨xs.length - (i+1),by omega,rfl,hlt,p'⟩,λx H' y=>?_⟩;obtain⟨c,rfl,hc,y⟩:=y;rw[y xs _ q e1];exact hs i _ c σ H e1 hc p
 · have e:i=xs.length:=by omega
   subst e;exact .inl ⟨⟨xs,q,Ag _⟩,hd σ H p⟩
def below(s t:HS):List HS:=match t.1 with
 | none=>[]
 | some l=>if s.1=some l then [] else [(s.1,some (l - 1))]
def above(s t:HS):List HS:=match t.2 with
 | none=>[]
 | some h=>if s.2=some h then [] else [(some (h+1),s.2)]
def IX(s t:HS):List HS:=below s t++above s t
structure Within(s t:HS):Prop where
 lo:∀l,s.1=some l→∃k,t.1=some k∧l≤k
 hi:∀h,s.2=some h→∃k,t.2=some k∧k≤h
 le:IS t.1 t.2=true
theorem R9{s t r:HS}(W:Within s t)(hr:r∈IX s t){n:Int}(h:HN r.1 r.2 n=true):HN s.1 s.2 n=true∧HN t.1 t.2 n=false:=by
 obtain⟨a,b⟩:=s;obtain⟨c,d⟩:=t;obtain⟨w1,w2,w3⟩:=W;unfold IX below above at hr;rcases As.mp hr with z | z
 · cases c with
   | none=>simp at z
   | some l=>
    by_cases e:a=some l
    · simp[e] at z
    · simp[e] at z;subst z;cases a with
      | none=>
       cases b with
       | none=>cases d<;>simp[HN,II,IT] at h ⊢ <;>omega
       | some b=> obtain⟨k,hk,hk2⟩:=w2 b rfl;simp at hk;subst hk;simp[HN,II,IT,IS] at h w3 ⊢;omega
      | some a=>
       obtain⟨k0,hk0,hk02⟩:=w1 a rfl;simp at hk0;subst hk0;cases b with
       | none=>cases d<;>simp[HN,II,IT] at h ⊢ <;>omega
       | some b=> obtain⟨k,hk,hk2⟩:=w2 b rfl;simp at hk;subst hk;simp[HN,II,IT,IS] at h w3 ⊢;omega
 · cases d with
   | none=>simp at z
   | some u=>
    by_cases e:b=some u
    · simp[e] at z
    · simp[e] at z;subst z;cases b with
      | none=>
       cases a with
       | none=>cases c<;>simp[HN,II,IT] at h ⊢ <;>omega
       | some a=> obtain⟨k,hk,hk2⟩:=w1 a rfl;simp at hk;subst hk;simp[HN,II,IT,IS] at h w3 ⊢;omega
      | some b=>
       obtain⟨k0,hk0,hk02⟩:=w2 b rfl;simp at hk0;subst hk0;cases a with
       | none=>cases c<;>simp[HN,II,IT] at h ⊢ <;>omega
       | some a=> obtain⟨k,hk,hk2⟩:=w1 a rfl;simp at hk;subst hk;simp[HN,II,IT,IS] at h w3 ⊢;omega
theorem VL{s t:HS}(W:Within s t){n:Int}(h:HN s.1 s.2 n=true)(h':HN t.1 t.2 n=false):∃r∈IX s t,HN r.1 r.2 n=true:=by
 obtain⟨a,b⟩:=s;obtain⟨c,d⟩:=t;obtain⟨w1,w2,w3⟩:=W;unfold IX below above;have:II c n=false∨IT d n=false:=by
  unfold HN at h';cases e:II c n with
  | false=>exact .inl rfl
  | true=>rw[e] at h';exact .inr h'
 have ha:II a n=true:=((Ay _ _).mp h).1;have hb:IT b n=true:=((Ay _ _).mp h).2;rcases this with z | z
 · cases c with
   | none=>simp[II] at z
   | some l=>
    have e:a≠some l:=λe=>by rw[e] at ha;rw[ha] at z;cases z
    refine⟨(a,some (l - 1)),Bu _ (by simp[e]),?_⟩;unfold HN;rw[ha];simp[II,IT] at z ⊢;omega
 · cases d with
   | none=>simp[IT] at z
   | some u=>
    have e:b≠some u:=λe=>by rw[e] at hb;rw[hb] at z;cases z
    refine⟨(some (u+1),b),Aj _ (by simp[e]),?_⟩;unfold HN;rw[hb];simp[II,IT] at z ⊢;omega
theorem VJ{s t r:HS}(W:Within s t)(hr:r∈IX s t):IS r.1 r.2=true:=by
 obtain⟨a,b⟩:=s;obtain⟨c,d⟩:=t;obtain⟨w1,w2,w3⟩:=W;unfold IX below above at hr;rcases As.mp hr with z | z
 · cases c with
   | none=>simp at z
   | some l=>
    by_cases e:a=some l
    · simp[e] at z
    · simp[e] at z;subst z;cases a with
      | none=>rfl
      | some a=> obtain⟨k0,hk0,hk02⟩:=w1 a rfl;simp at hk0 e;subst hk0;simp[IS];omega
 · cases d with
   | none=>simp at z
   | some u=>
    by_cases e:b=some u
    · simp[e] at z
    · simp[e] at z;subst z;cases b with
      | none=>rfl
      | some b=> obtain⟨k0,hk0,hk02⟩:=w2 b rfl;simp at hk0 e;subst hk0;simp[IS];omega
theorem Mo(s t:HS):(IX s t).length≤2:=by
 obtain⟨a,b⟩:=s;obtain⟨c,d⟩:=t;unfold IX below above;rw[Au];have h1:(match c with | none=>([]:List HS) | some l=>if a=some l then [] else [(a,some (l - 1))]).length≤1:=by
  cases c with
  | none=>simp
  | some l=>by_cases e:a=some l<;>simp[e]
 have h2:(match d with | none=>([]:List HS) | some h=>if b=some h then [] else [(some (h+1),b)]).length≤1:=by
  cases d with
  | none=>simp
  | some l=>by_cases e:b=some l<;>simp[e]
 exact Nat.add_le_add h1 h2
theorem Xb{s u:HS}(h:Ic (IE s.1 u.1) (IF s.2 u.2)=false):Within s (IE s.1 u.1,IF s.2 u.2):=by
 obtain⟨a,b⟩:=s;obtain⟨c,d⟩:=u;refine⟨λl e=>?_,λl e=>?_,by rw[RS,h];rfl⟩
 · have e:a=some l:=e;subst e;cases c with
   | none=>exact⟨l,rfl,CN _⟩
   | some c=>exact⟨_,rfl,by split<;>omega⟩
 · have e:b=some l:=e;subst e;cases d with
   | none=>exact⟨l,rfl,CN _⟩
   | some c=>exact⟨_,rfl,by split<;>omega⟩
theorem Xv{s:HS}(h:IS s.1 s.2=true):Within s s:=⟨λl e=>⟨l,e,CN _⟩,λl e=>⟨l,e,CN _⟩,h⟩
theorem Ld:∀(b a:List Str),a.Pairwise HZ→b.Pairwise HZ→(∀x∈a,x∈b)→a.Sublist b
 | [],a,_,_,h=>by
  cases a with
  | nil=>exact .slnil
  | cons x a=>exact absurd (h x AD) (by simp)
 | y::b,a,ha,hb,h=>by
  rw[BX] at hb;cases a with
  | nil=>exact List.nil_sublist _
  | cons x a=>
   have ha':=ha;rw[BX] at ha;rcases Al.mp (h x AD) with e | e
   · subst e;refine List.Sublist.cons₂ _ (Ld b a ha.2 hb.2 λz hz=>?_);rcases Al.mp (h z (AE _ hz)) with e | e
     · exact absurd e.symm (La (ha.1 z hz))
     · exact e
   · refine List.Sublist.cons _ (Ld b (x::a) ha' hb.2 λz hz=>?_);have lt:HZ y z:=by
      rcases Al.mp hz with rfl | hz
      · exact hb.1 _ e
      · exact Nu (hb.1 _ e) (ha.1 z hz)
     rcases Al.mp (h z hz) with e2 | e2
     · exact absurd e2.symm (La lt)
     · exact e2
theorem Xj{w o m m':List WP}(h:IsMet w o m)(h':IsMet w o m'):m=m':=RI h.asc h'.asc λf=>by rw[h.sp,h'.sp]
theorem LG{w:List WP}{f:Str}{s:HS}(h:Hv w f=some s):f∈w.map (·.1):=by obtain⟨p,hp,e,_⟩:=Ki h;exact e ▸ AC hp
theorem Mp{w:List WP}{f:Str}(h:f∈w.map (·.1)):∃s,Hv w f=some s:=RE h
theorem No{w o m:List WP}(kw:WOk w)(h:IsMet w o m)(hl:m.length≤w.length):m.map (·.1)=w.map (·.1):=by
 have sub:(w.map (·.1)).Sublist (m.map (·.1)):=Ld _ _ kw.asc h.asc λf hf=>by
  obtain⟨s,hs⟩:=Mp hf;have:=h.sp f;rw[hs] at this;cases e:Hv o f with
  | none=>rw[e] at this;exact LG this
  | some u=>rw[e] at this;exact LG this
 exact(sub.eq_of_length_le (by simpa using hl)).symm
theorem Vj{w o m:List WP}(h:IsMet w o m)(hw:(w.map (·.1)).Pairwise HZ)(hl:w.length<m.length):∃f∈o.map (·.1),f ∉ w.map (·.1):=by
 by_cases c:∃f∈m.map (·.1),f ∉ w.map (·.1)
 · obtain⟨f,h1,h2⟩:=c;obtain⟨s,hs⟩:=Mp h1;have hf:=h.sp f;rw[hs] at hf;cases e:Hv w f with
   | some t=>exact absurd (LG e) h2
   | none=> rw[e] at hf;exact⟨f,LG hf.symm,h2⟩
 · have sub:=Ld (w.map (·.1)) (m.map (·.1)) h.asc hw λf hf=>by
    by_cases z:f∈w.map (·.1)
    · exact z
    · exact absurd ⟨f,hf,z⟩ c
   have:=sub.length_le;simp at this;omega
def IK(w m:List WP)(i:Nat):List (List WP):=match w[i]?,m[i]? with
 | some p,some q=>(IX p.2 q.2).map λr=>m.take i++[(p.1,r)]++w.drop (i+1)
 | _,_=>[]
def LD(w m:List WP):List (List WP):=(Bf w.length).flatMap (IK w m)
open Classical in
noncomputable def HX(w o:List WP):List WP:=if h:∃m,IsMet w o m then Classical.choose h else []
theorem Mh{w o m:List WP}(h:IsMet w o m):HX w o=m:=by unfold HX;rw[dif_pos ⟨m,h⟩];exact Xj (Classical.choose_spec (⟨m,h⟩:∃m,IsMet w o m)) h
noncomputable def one(w o:List WP):List (List WP):=if Jz w o=true then [w] else if w.length<(HX w o).length then [w] else LD w (HX w o)
structure OneOk(w o:List WP)(ps:List (List WP)):Prop where
 ok:∀p∈ps,WOk p∧p.map (·.1)=w.map (·.1)
 sound:∀p∈ps,∀P,Ho p P=true→Ho w P=true∧(P.map (·.1)=w.map (·.1)→Ho o P=false)
 full:∀P,Ho w P=true→(∃p∈ps,Ho p P=true)∨Ho o P=true
 len:ps.length≤2*w.length+1
theorem Ju(a b:List WP)(P:List PP):Ho (a++b) P=(Ho a P && Ho b P):=List.all_append
theorem Kx(p:WP)(P:List PP):Ho [p] P=Js P p:=by unfold Ho;simp
theorem Wo{P:List PP}{f:Str}{n:Int}(h:IU P f=some n):f∈P.map (·.1):=by
 unfold IU at h;cases e:P.find? (λx=>decide (x.1=f)) with
 | none=>rw[e] at h;cases h
 | some x=> have:decide (x.1=f)=true:=Fs (p:=λ(x:PP)=>decide (x.1=f)) e;exact(of_decide_eq_true this) ▸ AC (DA e)
theorem takesP_iff{P:List PP}{p:WP}:Js P p=true↔∃n,IU P p.1=some n∧HN p.2.1 p.2.2 n=true:=by
 cases e:IU P p.1 with
 | none=>rw[Xu e];simp
 | some n=>rw[OU e];simp
theorem RU{w o:List WP}(kw:WOk w)(ko:WOk o)(h:Jz w o=true):OneOk w o [w]:=by
 refine⟨λp hp=>?_,λp hp P t=>?_,λP t=> .inl ⟨w,by simp,t⟩,by simp⟩
 · rw[Ae.mp hp];exact⟨kw,rfl⟩
 · rw[Ae.mp hp] at t;refine⟨t,λ_=>?_⟩;cases e:Ho o P with
   | false=>rfl
   | true=>
    obtain⟨y,hy,ha⟩:=BC.mp h;unfold LU at ha;cases e1:Hv w y.1 with
    | none=>rw[e1] at ha;cases ha
    | some s=> rw[e1] at ha;obtain⟨n,n1,n2⟩:=(Mg kw.asc P).mp t y.1 s e1;obtain⟨n',n1',n2'⟩:=takesP_iff.mp (AI.mp e y hy);rw[n1] at n1';cases n1';have:=Vq ha n;rw[LV,n2,n2'] at this;cases this
theorem Rv{w o m:List WP}(kw:WOk w)(ko:WOk o)(h:IsMet w o m)(hl:w.length<m.length):OneOk w o [w]:=by
 refine⟨λp hp=>?_,λp hp P t=>?_,λP t=> .inl ⟨w,by simp,t⟩,by simp⟩
 · rw[Ae.mp hp];exact⟨kw,rfl⟩
 · rw[Ae.mp hp] at t;refine⟨t,λhf=>?_⟩;cases e:Ho o P with
   | false=>rfl
   | true=> obtain⟨f,f1,f2⟩:=Vj h kw.asc hl;obtain⟨s,hs⟩:=Mp f1;obtain⟨n,n1,_⟩:=(Mg ko.asc P).mp e f s hs;exact absurd (hf ▸ Wo n1) f2
section
variable{w o m:List WP}
theorem Kt(kw:WOk w)(ko:WOk o)(h:IsMet w o m)(ap:Jz w o=false)(hf:m.map (·.1)=w.map (·.1)){p q:WP}(hp:w[i]?=some p)(hq:m[i]?=some q):q.1=p.1∧Within p.2 q.2∧(∀n,HN q.2.1 q.2.2 n=true→HN p.2.1 p.2.2 n=true):=by
 have e1:q.1=p.1:=by
  have h1:(m.map (·.1))[i]?=some q.1:=by rw[Af,hq];rfl
  have h2:(w.map (·.1))[i]?=some p.1:=by rw[Af,hp];rfl
  rw[hf,h2] at h1;exact(AB h1).symm
 have mp:=Ak hp;have s1:=Ll kw.asc mp;have s2:=Ll h.asc (Ak hq);rw[h.sp,e1,s1] at s2;refine⟨e1,?_⟩;cases e:Hv o p.1 with
 | none=> rw[e] at s2;have:p.2=q.2:=AB s2;rw[←this];exact⟨Xv (kw.ok p mp).2,λn z=>z⟩
 | some u=>
  rw[e] at s2;have:(IE p.2.1 u.1,IF p.2.2 u.2)=q.2:=AB s2;rw[←this];obtain⟨y,hy,y1,y2⟩:=Ki e;have na:Ic (IE p.2.1 u.1) (IF p.2.2 u.2)=false:=by
   cases e2:Ic (IE p.2.1 u.1) (IF p.2.2 u.2) with
   | false=>rfl
   | true=> have:Jz w o=true:=BC.mpr ⟨y,hy,by unfold LU;rw[y1,s1,y2];exact e2⟩;rw[ap] at this;cases this
  refine⟨Xb na,λn z=>?_⟩;rw[LV] at z;exact((Ay _ _).mp z).1
theorem WW(kw:WOk w)(ko:WOk o)(h:IsMet w o m)(ap:Jz w o=false)(hf:m.map (·.1)=w.map (·.1))(i:Nat){P:List PP}(t:Ho (m.take i) P=true):Ho (w.take i) P=true:=by
 have hl:m.length=w.length:=by have:=congrArg Be hf;simpa using this
 refine AI.mpr λx hx=>?_;obtain⟨j,hj,e⟩:=Et hx;rw[A5] at hj;have hp:w[j]?=some x:=by rw[←e,List.getElem_take,Aq]
 have hq:m[j]?=some (m[j]'(by omega)):=Aq _;obtain⟨e1,_,e3⟩:=Kt kw ko h ap hf hp hq;have:=AI.mp t (m[j]'(by omega)) (by rw[List.mem_take_iff_getElem];exact⟨j,by omega,rfl⟩);obtain⟨n,n1,n2⟩:=takesP_iff.mp this;exact takesP_iff.mpr ⟨n,by rw[←e1];exact n1,e3 n n2⟩
theorem RF{w:List WP}{p:WP}(hp:w[i]?=some p)(P:List PP):Ho w P=(Ho (w.take i) P && (Js P p && Ho (w.drop (i+1)) P)):=by
 have e:w=w.take i++([p]++w.drop (i+1)):=by have h1:=(CY i w).symm;obtain⟨hi,e⟩:=An.mp hp;rw[C5 hi,e] at h1;exact h1
 conv=>lhs;rw[e]
 rw[Ju,Ju,Kx]
theorem RV(kw:WOk w)(ko:WOk o)(h:IsMet w o m)(ap:Jz w o=false)(hl:m.length≤w.length):OneOk w o (LD w m):=by
 have hf:=No kw h hl;have hl':m.length=w.length:=by have:=congrArg Be hf;simpa using this
 have mem:∀p∈LD w m,∃i q r s,w[i]?=some q∧m[i]?=some r∧s∈IX q.2 r.2∧p=m.take i++[(q.1,s)]++w.drop (i+1):=λp hp=>by
  obtain⟨i,hi,z⟩:=Ca.mp hp;have hi:=CI.mp hi;have e1:w[i]?=some w[i]:=by simp
  have e2:m[i]?=some (m[i]'(by omega)):=Aq _;unfold IK at z;rw[e1,e2] at z;obtain⟨s,hs,rfl⟩:=AM.mp z;exact⟨i,_,_,s,e1,e2,hs,rfl⟩
 refine⟨λp hp=>?_,λp hp P t=>?_,λP t=>?_,?_⟩
 · obtain⟨i,q,r,s,e1,e2,hs,rfl⟩:=mem p hp;obtain⟨m1,m2,m3⟩:=Kt kw ko h ap hf e1 e2;have li:=(An.mp e1).1;have fe:((m.take i++[(q.1,s)]++w.drop (i+1)).map (·.1))=w.map (·.1):=by
    rw[Ah,Ah,CF,hf,←CF];have:w=w.take i++([q]++w.drop (i+1)):=by have h1:=(CY i w).symm;rw[C5 li,(An.mp e1).2] at h1;exact h1
    conv=>rhs;rw[this]
    simp
   refine⟨⟨by have:=congrArg Be fe;simp only[Ab] at this;rw[this];exact kw.len,λx hx=>?_,by rw[fe];exact kw.asc⟩,fe⟩;rcases As.mp hx with z | z
   · rcases As.mp z with z | z
     · have fx:x.1∈w.map (·.1):=by rw[←hf];exact AC (AO z)
       obtain⟨y,hy,ey⟩:=AM.mp fx;obtain⟨j,hj,e⟩:=Et z;rw[A5] at hj;have hq:m[j]?=some x:=by rw[←e,List.getElem_take,Aq]
       have hp':w[j]?=some (w[j]'(by omega)):=Aq _;obtain⟨e1',e2',_⟩:=Kt kw ko h ap hf hp' hq;exact⟨ey ▸ (kw.ok y hy).1,e2'.le⟩
     · rw[Ae.mp z];exact⟨(kw.ok q (Ak e1)).1,VJ m2 hs⟩
   · exact kw.ok x (Cb z)
 · obtain⟨i,q,r,s,e1,e2,hs,rfl⟩:=mem p hp;obtain⟨m1,m2,m3⟩:=Kt kw ko h ap hf e1 e2;rw[Ju,Ju,Kx,Ay,Ay] at t;obtain⟨⟨t1,t2⟩,t3⟩:=t;obtain⟨n,n1,n2⟩:=takesP_iff.mp t2;obtain⟨b1,b2⟩:=R9 m2 hs n2;have tw:Ho w P=true:=by
    rw[RF e1,WW kw ko h ap hf i t1,t3,(takesP_iff (p:=q)).mpr ⟨n,n1,b1⟩];rfl
   refine⟨tw,λ_=>?_⟩;cases e:Ho o P with
   | false=>rfl
   | true=> have tm:=RO kw.asc ko.asc h P;rw[tw,e] at tm;have:=AI.mp tm r (Ak e2);obtain⟨n',n1',n2'⟩:=takesP_iff.mp this;rw[m1,n1] at n1';cases n1';rw[b2] at n2';cases n2'
 · have key:∀k,k≤w.length→Ho (m.take k) P=true∨∃p∈LD w m,Ho p P=true:=by
    intro k
    induction k with
    | zero=>intro _;exact .inl rfl
    | succ k ih=>
     intro hk;rcases ih (by omega) with z | z
     · have e1:w[k]?=some (w[k]'(by omega)):=Aq _;have e2:m[k]?=some (m[k]'(by omega)):=Aq _;generalize w[k]'(by omega)=q at e1;generalize m[k]'(by omega)=r at e2;obtain⟨m1,m2,m3⟩:=Kt kw ko h ap hf e1 e2;have ts:=t;rw[RF e1,Ay,Ay] at ts;obtain⟨_,tq,td⟩:=ts;obtain⟨n,n1,n2⟩:=takesP_iff.mp tq;cases c:HN r.2.1 r.2.2 n with
       | true=> refine .inl ?_;rw[Iw e2,Ju,z,Kx,takesP_iff.mpr ⟨n,by rw[m1];exact n1,c⟩];rfl
       | false=>
        obtain⟨s,hs,hn⟩:=VL m2 n2 c;refine .inr ⟨m.take k++[(q.1,s)]++w.drop (k+1),?_,?_⟩
        · refine Ca.mpr ⟨k,CI.mpr (by omega),?_⟩;unfold IK;rw[e1,e2];exact AC hs
        · rw[Ju,Ju,Kx,z,td,(takesP_iff (p:=(q.1,s))).mpr ⟨n,n1,hn⟩];rfl
     · exact .inr z
   rcases key w.length (Ag _) with z | z
   · right
     rw[AH (by omega)] at z;have tm:=RO kw.asc ko.asc h P;rw[z] at tm;exact((Ay _ _).mp tm.symm).2
   · exact .inl z
 · have:∀l:List Nat,(l.flatMap (IK w m)).length≤2*l.length:=λl=>by
    induction l with
    | nil=>simp
    | cons i l ih=>
     rw[CC,Au,AN];have:(IK w m i).length≤2:=by
      unfold IK
      split
      · rw[Ab];exact Mo _ _
      · simp
     omega
   have:=this (Bf w.length);rw[CB] at this;exact Nat.le_succ_of_le this
end
theorem Ts{w o:List WP}(kw:WOk w)(ko:WOk o)(hm:Jz w o=false→IsMet w o (HX w o)):OneOk w o (one w o):=by
 unfold one;cases ap:Jz w o with
 | true=>rw[if_pos rfl];exact RU kw ko ap
 | false=>
  rw[if_neg (by simp)];by_cases hl:w.length<(HX w o).length
  · rw[if_pos hl];exact Rv kw ko (hm ap) hl
  · rw[if_neg hl];exact RV kw ko (hm ap) ap (by omega)
theorem Om{w o:List WP}(kw:WOk w)(ko:WOk o):∃m,IsMet w o m:=by
 have:∀(l acc:List Str),(acc.Pairwise HZ)→∃ms:List Str,ms.Pairwise HZ∧(∀f,f∈ms↔f∈l∨f∈acc)∧ms.length≤l.length+acc.length:=λl=>by
  induction l with
  | nil=>exact λacc h=>⟨acc,h,λf=>by simp,by simp⟩
  | cons x l ih=>
   intro acc h;by_cases hx:x∈acc
   · obtain⟨ms,m1,m2,m3⟩:=ih acc h;refine⟨ms,m1,λf=>?_,by rw[AN];omega⟩;rw[m2,Al];constructor
     · rintro(z | z)
       · exact .inl (.inr z)
       · exact .inr z
     · rintro((z | z) | z)
       · subst z;exact .inr hx
       · exact .inl z
       · exact .inr z
   · have ins:∀acc:List Str,acc.Pairwise HZ→x ∉ acc→∃bs:List Str,bs.Pairwise HZ∧(∀f,f∈bs↔f=x∨f∈acc)∧bs.length=acc.length+1:=λacc=>by
      induction acc with
      | nil=>exact λ_ _=>⟨[x],by simp,λf=>by simp,rfl⟩
      | cons y acc ih2=>
       intro h2 n2;rw[BX] at h2;have nx:x≠y:=λe=>n2 (by rw[e];exact AD);by_cases lt:HZ x y
       · refine⟨x::y::acc,?_,λf=>by simp[Al],rfl⟩;rw[BX,BX];refine⟨λz hz=>?_,h2⟩;rcases Al.mp hz with rfl | hz
         · exact lt
         · exact Nu lt (h2.1 z hz)
       · obtain⟨bs,b1,b2,b3⟩:=ih2 h2.2 λz=>n2 (AE _ z);refine⟨y::bs,?_,λf=>?_,by rw[AN,AN,b3]⟩
         · rw[BX];refine⟨λz hz=>?_,b1⟩;rcases(b2 z).mp hz with rfl | hz
           · exact Rh lt nx
           · exact h2.1 z hz
         · rw[Al,b2,Al];constructor
           · rintro(z | z | z)
             · exact .inr (.inl z)
             · exact .inl z
             · exact .inr (.inr z)
           · rintro(z | z | z)
             · exact .inr (.inl z)
             · exact .inl z
             · exact .inr (.inr z)
     obtain⟨bs,b1,b2,b3⟩:=ins acc h hx;obtain⟨ms,m1,m2,m3⟩:=ih bs b1;refine⟨ms,m1,λf=>?_,by rw[AN];omega⟩;rw[m2,b2,Al];constructor
     · rintro(z | z | z)
       · exact .inl (.inr z)
       · exact .inl (.inl z)
       · exact .inr z
     · rintro((z | z) | z)
       · exact .inr (.inl z)
       · exact .inl z
       · exact .inr (.inr z)
 obtain⟨ms,m1,m2,m3⟩:=this (w.map (·.1)) (o.map (·.1)) ko.asc;refine⟨JW w o ms,Rp m1 (λf=>?_) (by simpa using m3)⟩;rw[m2];constructor
 · rintro(z | z)
   · obtain⟨s,hs⟩:=Mp z;rw[hs];cases Hv o f<;>rfl
   · obtain⟨s,hs⟩:=Mp z;rw[hs];cases Hv w f<;>rfl
 · intro h;cases e1:Hv w f with
   | some s=>exact .inl (LG e1)
   | none=>
    cases e2:Hv o f with
    | some s=>exact .inr (LG e2)
    | none=>rw[e1,e2] at h;cases h
theorem Ov{w o:List WP}(kw:WOk w)(ko:WOk o):OneOk w o (one w o):=by obtain⟨m,hm⟩:=Om kw ko;exact Ts kw ko λ_=>by rw[Mh hm];exact hm
noncomputable def Hn(w:List WP)(os:List (List WP)):List (List WP):=os.foldl (λps o=>ps.flatMap λp=>one p o) [w]
theorem Ml(w:List WP)(os:List (List WP))(o:List WP):Hn w (os++[o])=(Hn w os).flatMap λp=>one p o:=by unfold Hn;rw[List.foldl_append];rfl
structure AllOk(w:List WP)(os:List (List WP))(ps:List (List WP)):Prop where
 ok:∀p∈ps,WOk p∧p.map (·.1)=w.map (·.1)
 sound:∀p∈ps,∀P,Ho p P=true→Ho w P=true∧(P.map (·.1)=w.map (·.1)→∀o∈os,Ho o P=false)
 full:∀P,Ho w P=true→(∃p∈ps,Ho p P=true)∨∃o∈os,Ho o P=true
 len:ps.length≤7^os.length
theorem QC{w:List WP}(kw:WOk w):AllOk w [] [w]:=
 ⟨λp hp=>by rw[Ae.mp hp];exact⟨kw,rfl⟩,λp hp P t=>by rw[Ae.mp hp] at t;exact⟨t,λ_ o ho=>by simp at ho⟩,λP t=> .inl ⟨w,by simp,t⟩,by simp⟩
theorem Ri{w o:List WP}{os ps:List (List WP)}{f:List WP→List (List WP)}(h:AllOk w os ps)(hw:w.length≤3)(hf:∀p∈ps,OneOk p o (f p)):AllOk w (os++[o]) (ps.flatMap f):=by
 have lp:∀p∈ps,p.length=w.length:=λp hp=>by have:=congrArg Be (h.ok p hp).2;simpa using this
 refine⟨λp hp=>?_,λp hp P t=>?_,λP t=>?_,?_⟩
 · obtain⟨q,hq,hp⟩:=Ca.mp hp;obtain⟨a,b⟩:=(hf q hq).ok p hp;exact⟨a,b.trans (h.ok q hq).2⟩
 · obtain⟨q,hq,hp⟩:=Ca.mp hp;obtain⟨a,b⟩:=(hf q hq).sound p hp P t;obtain⟨c,d⟩:=h.sound q hq P a;refine⟨c,λe o' ho'=>?_⟩;rcases As.mp ho' with z | z
   · exact d e o' z
   · rw[Ae.mp z];exact b (e.trans (h.ok q hq).2.symm)
 · rcases h.full P t with⟨q,hq,tq⟩ | ⟨o',ho',t'⟩
   · rcases(hf q hq).full P tq with⟨p,hp,tp⟩ | z
     · exact .inl ⟨p,Ca.mpr ⟨q,hq,hp⟩,tp⟩
     · exact .inr ⟨o,Aj _ (by simp),z⟩
   · exact .inr ⟨o',Bu _ ho',t'⟩
 · have:∀l:List (List WP),(∀p∈l,(f p).length≤7)→(l.flatMap f).length≤7*l.length:=λl hl=>by
    induction l with
    | nil=>simp
    | cons i l ih=> rw[CC,Au,AN];have h1:=hl i AD;have h2:=ih λp hp=>hl p (AE _ hp);omega
   have h1:=this ps λp hp=>by have h1:=(hf p hp).len;have h2:=lp p hp;omega
   rw[Au,F7,Nat.pow_succ];have:=h.len;omega
def Lw(H:Hp)(r:Addr)(ps:List (List WP)):Prop:=∃qs:List (Addr×List WP),qs.map (·.2)=ps∧H r=some (.lst (qs.map λq=>V.ref q.1))∧∀q∈qs,WishAt H q.1 q.2
def SS:Sp:=λvs H Q _=>∃(v w:V)(s t:HS),vs=[v,w]∧SpanAt H v s.1 s.2∧SpanAt H w t.1 t.2∧Within s t∧∀(r:Addr)(ss:List (Addr×HS))(H':Hp),H r=none→Same H H'→ss.map (·.2)=IX s t→H' r=some (.lst (ss.map λx=>V.ref x.1))→(∀x∈ss,H' x.1=some (.tup [eV x.2.1,eV x.2.2]))→Q (.ref r) H'
def Sn:Sp:=λvs H Q _=>∃(a b:Addr)(w o:List WP),vs=[.ref a,.ref b]∧WishAt H a w∧WishAt H b o∧WOk w∧WOk o∧w.length≤6∧o.length≤6∧
 ∀(r:Addr)(H':Hp),H r=none→Same H H'→Lw H' r (one w o)→OneOk w o (one w o)→Q (.ref r) H'
def QR:Sp:=λvs H Q _=>∃(a l:Addr)(w:List WP)(os:List (Addr×List WP)),vs=[.ref a,.ref l]∧WishAt H a w∧WOk w∧w.length≤3∧WsAt H l os∧os.length≤7∧(∀x∈os,x.2.length≤6)∧
 ∀(r:Addr)(H':Hp),Same H H'→Lw H' r (Hn w (os.map (·.2)))→AllOk w (os.map (·.2)) (Hn w (os.map (·.2)))→Q (.ref r) H'
def SH:Sp:=λvs H Q _=>∃(l:Addr)(ws:List (Addr×List WP))(fs:List Str),vs=[.ref l]∧WsAt H l ws∧fs.length≤6∧(∀x∈ws,Lr fs x.2)∧
 ∀(r:Addr)(ms:List Str)(H':Hp),Same H H'→H r=none→H' r=some (.lst (ms.map V.str))→ms.Nodup→sortedS ms=true→(∀f,f∈ms↔∃x∈ws,f∈x.2.map (·.1))→Q (.ref r) H'
def Qc:Sp:=λvs H Q _=>∃(l f:Addr)(xs ys:List V),vs=[.ref l,.ref f]∧H l=some (.lst xs)∧H f=some (.lst ys)∧xs.length≤7∧ys.length≤3∧Q .non H
theorem Sh{ms fs:List Str}(hn:ms.Nodup)(hs:∀x∈ms,x∈fs):ms.length≤fs.length:=by
 induction ms generalizing fs with
 | nil=>exact Bo _
 | cons x a ih=>
  rw[List.nodup_cons] at hn;have hx:=hs x AD;have:=ih (fs:=fs.erase x) hn.2 λy hy=>by have ne:y≠x:=λe=>hn.1 (e ▸ hy);exact(List.mem_erase_of_ne ne).mpr (hs y (AE _ hy))
  rw[List.length_erase_of_mem hx] at this;have:=F5 hx;rw[AN];omega
theorem On{v:V}{A B:St→Hp→Prop}(h:A (σ.set i (some v)) H):J6 i v σ H λσ2 H2=>Jl σ2 H2 λb H3=>if b=true then A σ2 H3 else B σ2 H3:=by
 show(if true=true then A (σ.set i (some v)) H else B (σ.set i (some v)) H)
 exact Hr h
theorem U5{A B:Hp→Prop}(h:A H):Jl σ H λb H3=>if b=true then A H3 else B H3:=by
 show(if true=true then A H else B H)
 exact Hr h
theorem PF(h:n≤7^7*7):n<Av:=BW h (by decide)
theorem W0{p:Addr}{Q:VK}{js:Im}{cap:St}{wi1:TI}{te:TE}(qs:List (Addr×List WP))(f:List WP→List (List WP))(hq:SqL K H a (qs.map λq=>V.ref q.1))(hp:H p=none)(hσ:IJ js σ=none::none::cap)
 (hb:∀q∈qs,(f q.2).length≤7) (hn:qs.length≤7^7) (hw:∀q∈qs,WishAt H q.1 q.2)
 (hi:∀q∈qs,∀(y:Option V)(H':Hp)(R:It→Hp→Prop),Same H H'→(∀(b:Addr)(rs:List (Addr×List WP))(H'':Hp),H' b=none→Same H' H''→H'' b=some (.lst (rs.map λx=>V.ref x.1))→rs.map (·.2)=f q.2→(∀x∈rs,WishAt H'' x.1 x.2)→R (JJ K b) H'')→wi1 (some (.ref q.1)::y::cap) H' R)
 (he:∀(u:Option V)(v:V)(H':Hp)(R:VK),R v H'→te (u::some v::cap) H' R)
 (hQ:∀(H':Hp)(zs:List (Addr×List WP)),Same H H'→zs.map (·.2)=qs.flatMap (λq=>f q.2)→H' p=some (.lst (zs.map λz=>V.ref z.1))→(∀z∈zs,WishAt H' z.1 z.2)→Q (.ref p) H'):
 Oe (JJ K a) p js (J6 0) Jl wi1 (J6 1) Jl te σ H Q:=by
 have s0:=Hx hp (.lst []);have flen:∀l:List (Addr×List WP),(∀q∈l,(f q.2).length≤7)→(l.flatMap λq=>f q.2).length≤7*l.length:=λl hl=>by
  induction l with
  | nil=>simp
  | cons x l ih=> rw[CC,Au,AN];have h1:=hl x AD;have h2:=ih λq hq=>hl q (AE _ hq);omega
 have lq:(qs.map λq=>V.ref q.1).length=qs.length:=Ab _;refine⟨λi m σ' ys H'=>m=qs.length - i∧i≤qs.length∧(∃y0 y1,σ'=y0::y1::cap)∧Same H H'∧H' p=some (.lst ys)∧∃zs:List (Addr×List WP),ys=zs.map (λz=>V.ref z.1)∧zs.map (·.2)=(qs.take i).flatMap (λq=>f q.2)∧∀z∈zs,WishAt H' z.1 z.2,⟨qs.length,by simp,Bo _,⟨none,none,hσ⟩,s0,Hl,[],rfl,rfl,λz hz=>by simp at hz⟩,?_⟩;rintro i m σ' ys H1 ⟨rfl,hi1,⟨y0,y1,rfl⟩,s1,e1,zs,rfl,z1,z2⟩;refine⟨e1,?_⟩;by_cases hlt:i<qs.length
 · right
   have eq:qs[i]?=some qs[i]:=by simp
   have hx:(qs.map λq=>V.ref q.1)[i]?=some (V.ref qs[i].1):=by rw[Af,eq];rfl
   have hm:=Ak eq;generalize qs[i]=q at*;refine⟨⟨_,_,s1.seq hq,hx⟩,?_⟩;rintro x H2 ⟨rfl,hx2⟩;have:some (V.ref q.1)=some x:=hx.symm.trans (hx2 _ (s1.seq hq));cases this;refine On ?_;refine hi q hm y1 H2 _ s1 λb rs H3 nb s3 eb rf rw'=>?_;have bp:b≠p:=λz=>by rw[z,e1] at nb;cases nb
   have e3:=s3 _ _ e1;have lr:rs.length=(f q.2).length:=by rw[←rf,Ab]
   have l1:zs.length≤7*i:=by have h1:=congrArg Be z1;rw[Ab] at h1;rw[h1];have:=flen (qs.take i) λq hq=>hb q (AO hq);rw[A5] at this;omega
   refine⟨λj m1 σ3 zs' H5=>m1=rs.length - j∧j≤rs.length∧(∃y1,σ3=some (.ref q.1)::y1::cap)∧Same H H5∧H5 p=some (.lst zs')∧H5 b=some (.lst (rs.map λx=>V.ref x.1))∧(∀x∈rs,WishAt H5 x.1 x.2)∧
    ∃us:List (Addr×List WP),zs'=us.map (λz=>V.ref z.1)∧us.map (·.2)=(qs.take i).flatMap (λq=>f q.2)++(f q.2).take j∧∀z∈us,WishAt H5 z.1 z.2,⟨rs.length,by simp,Bo _,⟨_,rfl⟩,s1.trans s3,e3,eb,rw',zs,rfl,by rw[z1];simp,λz hz=>(z2 z hz).same s3⟩,?_⟩
   rintro j m1 σ3 zs' H5 ⟨rfl,hj,⟨y1',rfl⟩,s5,e5,b5,r5,us,rfl,u1,u2⟩;refine⟨e5,?_⟩;by_cases hjl:j<rs.length
   · right
     have er:rs[j]?=some rs[j]:=by simp
     have hy:(rs.map λx=>V.ref x.1)[j]?=some (V.ref rs[j].1):=by rw[Af,er];rfl
     have ef:(f q.2)[j]?=some rs[j].2:=by rw[←rf,Af,er];rfl
     have wr:=r5 _ (Ak er);generalize rs[j]=r at*;have lu:us.length≤7*i+j:=by have h1:=congrArg Be u1;rw[Ab,Au,A5] at h1;have h2:=flen (qs.take i) λq hq=>hb q (AO hq);rw[A5] at h2;omega
     have:=hb q hm;refine⟨⟨_,_,SqL.of b5,hy⟩,by rw[Ab];exact PF (by omega),?_⟩;rintro x H6 ⟨rfl,hx6⟩;have:some (V.ref r.1)=some x:=hy.symm.trans (hx6 _ (SqL.of b5));cases this;have tl:=Kc (o:= .lst (us.map (λz=>V.ref z.1)++[V.ref r.1])) e5;refine On ?_;refine he _ _ _ _ ⟨e5,rs.length - (j+1),by omega,rfl,hjl,⟨_,rfl⟩,JA s5 hp,Hl,by rw[HC bp];exact b5,λx hx=>(r5 x hx).keep tl,us++[r],by rw[Ah];rfl,?_,λz hz=>?_⟩
     · rw[Ah,u1,Iw ef,Bn];rfl
     · rcases As.mp hz with z | z
       · exact(u2 _ z).keep tl
       · rw[Ae.mp z];exact wr.keep tl
   · left
     have e:j=rs.length:=by omega
     subst e;refine⟨⟨_,SqL.of b5,by rw[Ab];exact Ag _⟩,qs.length - (i+1),by omega,rfl,hlt,⟨_,_,rfl⟩,s5,e5,us,rfl,?_,u2⟩;have et:(f q.2).take rs.length=f q.2:=AH (by omega);rw[u1,et,Iw eq,D4];simp
 · left
   have e:i=qs.length:=by omega
   subst e;refine⟨⟨_,s1.seq hq,by rw[lq];exact Ag _⟩,hQ H1 zs s1 ?_ e1 z2⟩;rw[z1,BL]
theorem WT{l:Addr}{js:Im}{wi1:TI}{g1:TG}{te:TE}{M:List Str→Hp→Prop}(ws:List (Addr×List WP))(fs:List Str)(hl:SqL K H l (ws.map λq=>V.ref q.1))(hw:∀q∈ws,WishAt H q.1 q.2)(hin:∀x∈ws,Lr fs x.2)(hf:fs.length≤6)(hσ:IJ js σ=[none,none,none,none])
 (hi:∀x∈ws,∀(y1 y2 y3:Option V)(R:It→Hp→Prop),(∃xs,SqT K H x.1 xs)→R (Ko K x.1) H→wi1 [some (.ref x.1),y1,y2,y3] H R)
 (hg:∀(x0 y1 y2 y3:Option V)(p:Addr×WP)(R:St→Hp→Prop),H p.1=some (.tup [.str p.2.1,eV p.2.2.1,eV p.2.2.2])→R [x0,some (.str p.2.1),some (eV p.2.2.1),some (eV p.2.2.2)] H→g1 (.ref p.1) [x0,y1,y2,y3] H R)
 (he:∀(x0 y2 y3:Option V)(f:Str)(R:VK),R (.str f) H→te [x0,some (.str f),y2,y3] H R)
 (hM:∀ks,ks.Nodup→ks.length≤6→(∀f,f∈ks↔∃x∈ws,f∈x.2.map (·.1))→M ks H):
 Of (JJ K l) js (J6 0) Jl wi1 g1 Jl te σ H M:=by
 have lq:(ws.map λq=>V.ref q.1).length=ws.length:=Ab _;have few:∀ks:List Str,ks.Nodup→(∀f,f∈ks→∃x∈ws,f∈x.2.map (·.1))→ks.length≤6:=λks nd h=>by refine AT (Sh nd λf hf'=>?_) hf;obtain⟨x,hx,hx2⟩:=h f hf';obtain⟨p,hp,rfl⟩:=AM.mp hx2;exact hin x hx p hp
 refine⟨λi m σ' ks H'=>m=ws.length - i∧i≤ws.length∧(∃y0 y1 y2 y3,σ'=[y0,y1,y2,y3])∧H'=H∧ks.Nodup∧∀f,f∈ks↔∃x∈ws.take i,f∈x.2.map (·.1),⟨ws.length,by simp,Bo _,⟨none,none,none,none,hσ⟩,rfl,List.nodup_nil,λf=>by simp⟩,?_⟩;rintro i m σ' ks H1 ⟨rfl,hi1,⟨y0,y1,y2,y3,rfl⟩,rfl,nd,mem⟩;by_cases hlt:i<ws.length
 · right
   have eq:ws[i]?=some ws[i]:=by simp
   have hx:(ws.map λq=>V.ref q.1)[i]?=some (V.ref ws[i].1):=by rw[Af,eq];rfl
   have hm:=Ak eq;generalize ws[i]=q at*;refine⟨⟨_,_,hl,hx⟩,?_⟩;rintro x H2 ⟨rfl,hx2⟩;have:some (V.ref q.1)=some x:=hx.symm.trans (hx2 _ hl);cases this;obtain⟨ps,hps,hA,hP⟩:=hw q hm;have hS:SqT K H2 q.1 (ps.map λp=>V.ref p.1):=SqT.of hA;refine On ?_;refine hi q hm y1 y2 y3 _ ⟨_,hS⟩ ?_;refine⟨λj m1 σ3 zs H5=>m1=ps.length - j∧j≤ps.length∧(∃y1 y2 y3,σ3=[some (.ref q.1),y1,y2,y3])∧H5=H2∧zs.Nodup∧∀f,f∈zs↔(∃x∈ws.take i,f∈x.2.map (·.1))∨f∈((ps.map (·.2)).take j).map (·.1),⟨ps.length,by simp,Bo _,⟨_,_,_,rfl⟩,rfl,nd,λf=>by rw[mem];simp⟩,?_⟩;rintro j m1 σ3 zs H5 ⟨rfl,hj,⟨y1',y2',y3',rfl⟩,rfl,nd5,mem5⟩;by_cases hjl:j<ps.length
   · right
     have er:ps[j]?=some ps[j]:=by simp
     have hy:(ps.map λx=>V.ref x.1)[j]?=some (V.ref ps[j].1):=by rw[Af,er];rfl
     have hpj:=hP _ (Ak er);have ew:(ps.map (·.2))[j]?=some ps[j].2:=by rw[Af,er];rfl
     generalize ps[j]=r at*;have l6:=few zs nd5 λf hf'=>by
      rcases(mem5 f).mp hf' with⟨x,hx',z⟩ | z
      · exact⟨x,AO hx',z⟩
      · refine⟨q,hm,?_⟩;rw[←hps];obtain⟨p,hp,rfl⟩:=AM.mp z;exact AC (AO hp)
     refine⟨⟨_,_,hS,hy⟩,by omega,?_⟩;rintro x H6 ⟨rfl,hx6⟩;have:some (V.ref r.1)=some x:=hy.symm.trans (hx6 _ hS);cases this;refine hg _ _ _ _ r _ hpj ?_;refine U5 ?_;refine he _ _ _ _ _ ⟨r.2.1,rfl,λzs' l' m' nd'=>⟨ps.length - (j+1),by omega,rfl,hjl,⟨_,_,_,rfl⟩,rfl,nd',λf=>?_⟩⟩;rw[m',mem5,Iw ew,Ah,As];simp only[Az,DG,Ae];constructor
     · rintro((z | z) | z)
       · exact .inl z
       · exact .inr (.inl z)
       · exact .inr (.inr z)
     · rintro(z | z | z)
       · exact .inl (.inl z)
       · exact .inl (.inr z)
       · exact .inr z
   · left
     have e:j=ps.length:=by omega
     subst e;refine⟨⟨_,hS,by rw[Ab];exact Ag _⟩,ws.length - (i+1),by omega,rfl,hlt,⟨_,_,_,_,rfl⟩,rfl,nd5,λf=>?_⟩;have et:(ps.map (·.2)).take ps.length=ps.map (·.2):=AH (by simp);rw[mem5,et,hps,Iw eq];simp only[As,Ae];constructor
     · rintro(⟨x,h1,h2⟩ | h)
       · exact⟨x,.inl h1,h2⟩
       · exact⟨q,.inr rfl,h⟩
     · rintro⟨x,h1 | h1,h2⟩
       · exact .inl ⟨x,h1,h2⟩
       · subst h1;exact .inr h2
 · left
   have e:i=ws.length:=by omega
   subst e;rw[BL] at mem;exact⟨⟨_,hl,by rw[lq];exact Ag _⟩,hM ks nd (few ks nd λf hf'=>(mem f).mp hf') mem⟩
structure OnGrid(lo sz m:Int)(s:HS):Prop where
 low:∀l,s.1=some l→∃i,0≤i∧i<m∧l=lo+sz*i
 high:∀h,s.2=some h→∃j,0≤j∧j<m∧h=lo+sz*j - 1
def Iv(lo sz m:Int)(w:List WP):Prop:=∀p∈w,OnGrid lo sz m p.2
section
variable{lo sz m:Int}
theorem X4{s t r:HS}(hs:OnGrid lo sz m s)(ht:OnGrid lo sz m t)(hr:r∈IX s t):OnGrid lo sz m r:=by
 obtain⟨a,b⟩:=s;obtain⟨c,d⟩:=t;unfold IX below above at hr;rcases As.mp hr with z | z
 · cases c with
   | none=>simp at z
   | some l=>
    by_cases e:a=some l
    · simp[e] at z
    · simp[e] at z;subst z;refine⟨hs.low,λh e=>?_⟩;obtain⟨i,i0,i1,ei⟩:=ht.low l rfl;cases e;exact⟨i,i0,i1,by omega⟩
 · cases d with
   | none=>simp at z
   | some u=>
    by_cases e:b=some u
    · simp[e] at z
    · simp[e] at z;subst z;refine⟨λl e=>?_,hs.high⟩;obtain⟨j,j0,j1,ej⟩:=ht.high u rfl;cases e;exact⟨j,j0,j1,by omega⟩
theorem V4{s t:HS}(hs:OnGrid lo sz m s)(ht:OnGrid lo sz m t):OnGrid lo sz m (IE s.1 t.1,IF s.2 t.2):=by
 obtain⟨a,b⟩:=s;obtain⟨c,d⟩:=t;refine⟨λl e=>?_,λh e=>?_⟩
 · cases a with
   | none=>exact ht.low l e
   | some a=>
    cases c with
    | none=>exact hs.low l e
    | some c=>
     by_cases q:a<c
     · simp only[IE,if_pos q] at e;exact ht.low l e
     · simp only[IE,if_neg q] at e;exact hs.low l e
 · cases b with
   | none=>exact ht.high h e
   | some b=>
    cases d with
    | none=>exact hs.high h e
    | some d=>
     by_cases q:d<b
     · simp only[IF,if_pos q] at e;exact ht.high h e
     · simp only[IF,if_neg q] at e;exact hs.high h e
theorem Nr{w:List WP}{f:Str}{s:HS}(h:Iv lo sz m w)(e:Hv w f=some s):OnGrid lo sz m s:=by obtain⟨p,hp,_,rfl⟩:=Ki e;exact h p hp
theorem Va{w o n:List WP}(hw:Iv lo sz m w)(ho:Iv lo sz m o)(h:IsMet w o n):Iv lo sz m n:=λp hp=>by
 have e:=h.sp p.1;rw[Ll h.asc hp] at e;cases e1:Hv w p.1 with
 | none=> rw[e1] at e;exact Nr ho e.symm
 | some s=>
  rw[e1] at e;cases e2:Hv o p.1 with
  | none=> rw[e2] at e;rw[AB e];exact Nr hw e1
  | some t=> rw[e2] at e;rw[AB e];exact V4 (Nr hw e1) (Nr ho e2)
theorem X5{w o:List WP}(hw:Iv lo sz m w)(ho:Iv lo sz m o):Iv lo sz m (HX w o):=by
 by_cases h:∃n,IsMet w o n
 · obtain⟨n,hn⟩:=h;rw[Mh hn];exact Va hw ho hn
 · unfold HX;rw[dif_neg h];exact λp hp=>by simp at hp
theorem Vb{w o r:List WP}(hw:Iv lo sz m w)(ho:Iv lo sz m o)(hr:r∈one w o):Iv lo sz m r:=by
 have hm:=X5 hw ho;unfold one at hr
 split at hr
 · rw[Ae.mp hr];exact hw
 · split at hr
   · rw[Ae.mp hr];exact hw
   · generalize HX w o=n at*;obtain⟨i,_,hc⟩:=Ca.mp hr;unfold IK at hc;cases e1:w[i]? with
     | none=>rw[e1] at hc;simp at hc
     | some p=>
      cases e2:n[i]? with
      | none=>rw[e1,e2] at hc;simp at hc
      | some q=>
       rw[e1,e2] at hc;obtain⟨b,hb,rfl⟩:=AM.mp hc;intro x hx;rcases As.mp hx with z | z
       · rcases As.mp z with z | z
         · exact hm x (AO z)
         · rw[Ae.mp z];exact X4 (hw p (Ak e1)) (hm q (Ak e2)) hb
       · exact hw x (Cb z)
theorem SA{w:List WP}{os:List (List WP)}(hw:Iv lo sz m w)(ho:∀o∈os,Iv lo sz m o):∀p∈Hn w os,Iv lo sz m p:=by
 unfold Hn;have go:∀(os ps:List (List WP)),(∀o∈os,Iv lo sz m o)→(∀p∈ps,Iv lo sz m p)→∀p∈os.foldl (λps o=>ps.flatMap λp=>one p o) ps,Iv lo sz m p:=by
  intro os
  induction os with
  | nil=>intro ps _ h;exact h
  | cons o os ih=> intro ps h1 h2;refine ih _ (λx hx=>h1 x (AE _ hx)) λp hp=>?_;obtain⟨q,hq,hp⟩:=Ca.mp hp;exact Vb (h2 q hq) (h1 o AD) hp
 exact go os [w] ho λp hp=>by rw[Ae.mp hp];exact hw
end
def Jv(lo sz:Int)(k:Nat):List Int:=(Bf k).map λi:Nat=>lo+sz*(-1+(i:Int))
theorem QD{w:List WP}(kw:WOk w)(lw:w.length≤3):∀(os2 os1:List (List WP)),AllOk w os1 (Hn w os1)→(∀o∈os2,WOk o)→AllOk w (os1++os2) (Hn w (os1++os2))
 | [],os1,h,_=>by rw[Ch];exact h
 | o::os2,os1,h,ho=>by
  have h1:AllOk w (os1++[o]) (Hn w (os1++[o])):=by rw[Ml];exact Ri h lw λp hp=>Ov (h.ok p hp).1 (ho o AD)
  have:=QD kw lw os2 (os1++[o]) h1 λx hx=>ho x (AE _ hx);rw[Bn] at this;exact this
theorem LY{w:List WP}(kw:WOk w)(lw:w.length≤3){os:List (List WP)}(ho:∀o∈os,WOk o):AllOk w os (Hn w os):=
 QD kw lw os [] (QC kw) ho
theorem Wh{s t:HS}(W:Within s t)(n:Int):(IX s t).countP (λr=>HN r.1 r.2 n)≤1:=by
 obtain⟨a,b⟩:=s;obtain⟨c,d⟩:=t;unfold IX;rw[CV];have le:=W.le;have b1:(below (a,b) (c,d)).length≤1:=by
  unfold below;cases c with
  | none=>simp
  | some l=>by_cases e:a=some l<;>simp[e]
 have a1:(above (a,b) (c,d)).length≤1:=by
  unfold above;cases d with
  | none=>simp
  | some l=>by_cases e:b=some l<;>simp[e]
 have c1:=FF (p:=λr:HS=>HN r.1 r.2 n) (l:=below (a,b) (c,d));have c2:=FF (p:=λr:HS=>HN r.1 r.2 n) (l:=above (a,b) (c,d));by_cases h1:(below (a,b) (c,d)).countP (λr=>HN r.1 r.2 n)=0
 · omega
 by_cases h2:(above (a,b) (c,d)).countP (λr=>HN r.1 r.2 n)=0
 · omega
 exfalso;obtain⟨r1,m1,i1⟩:=Cw.mp (EA h1);obtain⟨r2,m2,i2⟩:=Cw.mp (EA h2);unfold below at m1;unfold above at m2;cases c with
 | none=>simp at m1
 | some l=>
  cases d with
  | none=>simp at m2
  | some u=>
   by_cases e1:a=some l
   · simp[e1] at m1
   · by_cases e2:b=some u
     · simp[e2] at m2
     · simp[e1] at m1;simp[e2] at m2;subst m1 m2;simp[HN,II,IT] at i1 i2;simp[IS] at le;omega
theorem Ss(c:Nat→Nat)(h1:∀i,c i≤1)(h2:∀i j,i<j→c j≠0→c i=0):∀n,((Bf n).map c).sum≤1
 | 0=>by simp
 | n+1=>by
  rw[CZ,Ah,Fq];simp only[Az,DG,Cf,List.sum_nil,Nat.add_zero];by_cases h:c n=0
  · rw[h];exact Ss c h1 h2 n
  · have:((Bf n).map c).sum=0:=by
     have:∀l:List Nat,(∀i∈l,c i=0)→(l.map c).sum=0:=λl=>by
      induction l with
      | nil=>intro _;rfl
      | cons x r ih=> intro hl;rw[Az,Cf,hl x AD,ih λi hi=>hl i (AE _ hi)]
     exact this _ λi hi=>h2 i n (CI.mp hi) h
    have:=h1 n;omega
theorem Sv{P:List PP}{p:WP}{n:Int}(h:IU P p.1=some n):Js P p=HN p.2.1 p.2.2 n:=OU h
theorem VQ{w o m:List WP}(kw:WOk w)(ko:WOk o)(h:IsMet w o m)(ap:Jz w o=false)(hf:m.map (·.1)=w.map (·.1))(P:List PP):
 (∀i,(IK w m i).countP (λp=>Ho p P)≤1)∧∀i j,i<j→(IK w m j).countP (λp=>Ho p P)≠0→(IK w m i).countP (λp=>Ho p P)=0:=by
 have one:∀i,(IK w m i).countP (λp=>Ho p P)≠0→∃p q n,w[i]?=some p∧m[i]?=some q∧Ho (m.take i) P=true∧IU P p.1=some n∧HN q.2.1 q.2.2 n=false:=λi hi=>by
  obtain⟨r,mr,tr⟩:=Cw.mp (EA hi);unfold IK at mr;cases e1:w[i]? with
  | none=>rw[e1] at mr;simp at mr
  | some p=>
   cases e2:m[i]? with
   | none=>rw[e1,e2] at mr;simp at mr
   | some q=> rw[e1,e2] at mr;obtain⟨b,hb,rfl⟩:=AM.mp mr;obtain⟨m1,m2,m3⟩:=Kt kw ko h ap hf e1 e2;rw[Ju,Ju,Ay,Ay] at tr;obtain⟨⟨t1,t2⟩,_⟩:=tr;rw[Kx] at t2;obtain⟨n,hn,hb2⟩:=takesP_iff.mp t2;exact⟨p,q,n,rfl,rfl,t1,hn,(R9 m2 hb hb2).2⟩
 refine⟨λi=>?_,λi j hij hj=>?_⟩
 · unfold IK;cases e1:w[i]? with
   | none=>simp
   | some p=>
    cases e2:m[i]? with
    | none=>simp
    | some q=>
     obtain⟨m1,m2,m3⟩:=Kt kw ko h ap hf e1 e2;dsimp only;rw[Ft];cases en:IU P p.1 with
     | none=>
      rw[D5.mpr λb hb z=>?_]
      · exact Bo _
      · dsimp only[DZ] at z;rw[Ju,Ju,Ay,Ay,Kx] at z;obtain⟨n,hn,_⟩:=takesP_iff.mp z.1.2;rw[show((p.1,b):WP).1=p.1 from rfl,en] at hn;cases hn
     | some n=> refine AT (List.countP_mono_left λb hb z=>?_) (Wh m2 n);dsimp only[DZ] at z;rw[Ju,Ju,Ay,Ay,Kx] at z;obtain⟨n',hn,hb2⟩:=takesP_iff.mp z.1.2;rw[show((p.1,b):WP).1=p.1 from rfl,en] at hn;cases hn;exact hb2
 · obtain⟨pj,qj,nj,_,_,tj,_,_⟩:=one j hj;by_cases hi:(IK w m i).countP (λp=>Ho p P)=0
   · exact hi
   · exfalso;obtain⟨p,q,n,e1,e2,_,hn,out⟩:=one i hi;obtain⟨m1,_,_⟩:=Kt kw ko h ap hf e1 e2;have mq:q∈m.take j:=by
      have:(m.take j)[i]?=some q:=by rw[E9];simp[hij,e2]
      exact Ak this
     have:=AI.mp tj q mq;obtain⟨n',hn',hb⟩:=takesP_iff.mp this;rw[m1,hn] at hn';cases hn';rw[out] at hb;cases hb
theorem WL{w o:List WP}(kw:WOk w)(ko:WOk o)(P:List PP):(one w o).countP (λp=>Ho p P)≤1:=by
 unfold one
 split
 · rw[C4];split<;>omega
 · rename_i ap;have ap:Jz w o=false:=Db.mpr ap
   split
   · rw[C4];split<;>omega
   · rename_i hl;obtain⟨m,im⟩:=Om kw ko;rw[Mh im] at hl ⊢;have hf:=No kw im (by omega);obtain⟨c1,c2⟩:=VQ kw ko im ap hf P;unfold LD;rw[Gc];exact Ss _ c1 c2 _
theorem O2{α β:Type}(f:α→List β)(p:β→Bool)(l:List α):(l.flatMap f).countP p=(l.map λa=>(f a).countP p).sum:=by rw[Gc];rfl
theorem XI{w:List WP}(kw:WOk w)(lw:w.length≤3){os:List (List WP)}(ho:∀o∈os,WOk o){P:List PP}(hP:P.map (·.1)=w.map (·.1)):
 (Hn w os).countP (λp=>Ho p P)=if Ho w P=true∧∀o∈os,Ho o P=false then 1 else 0:=by
 have A:=LY kw lw ho;have le1:∀(os2 os1:List (List WP)),(∀o∈os1++os2,WOk o)→(Hn w os1).countP (λp=>Ho p P)≤1→(Hn w (os1++os2)).countP (λp=>Ho p P)≤1:=by
  intro os2
  induction os2 with
  | nil=>intro os1 _ h;rw[Ch];exact h
  | cons o os2 ih=>
   intro os1 hk h;have A1:=LY kw lw (os:=os1) λx hx=>hk x (Bu _ hx);have:=ih (os1++[o]) (by rw[Bn];exact hk) ?_
   · rw[Bn] at this;exact this
   · rw[Ml,O2];have ko:=hk o (Aj _ AD);have gen:∀l:List (List WP),(∀p∈l,WOk p)→l.countP (λp=>Ho p P)≤1→(l.map λp=>(one p o).countP (λq=>Ho q P)).sum≤l.countP (λp=>Ho p P):=λl=>by
      induction l with
      | nil=>intro _ _;simp
      | cons x r ihr=>
       intro hw hc;rw[Az,Cf,BM] at*;have h1:=WL (hw x AD) ko P;have h2:=ihr (λp hp=>hw p (AE _ hp)) (by omega);cases t:Ho x P with
       | true=>simp only[t,if_true] at*;omega
       | false=>
        have:(one x o).countP (λq=>Ho q P)=0:=D5.mpr λq hq z=>by have:=((Ov (hw x AD) ko).sound q hq P z).1;rw[t] at this;cases this
        omega
     exact AT (gen _ (λp hp=>(A1.ok p hp).1) h) h
 have l1:(Hn w os).countP (λp=>Ho p P)≤1:=by
  have:=le1 os [] (by simpa using ho) (by show([w]:List (List WP)).countP _≤1;rw[C4];split<;>omega)
  exact this
 split
 · rename_i h;rcases A.full P h.1 with⟨p,hp,tp⟩ | ⟨o,ho',to⟩
   · have:=(Cw (p:=λp=>Ho p P)).mpr ⟨p,hp,tp⟩;omega
   · rw[h.2 o ho'] at to;cases to
 · rename_i h;refine D5.mpr λp hp z=>h ?_;obtain⟨t1,t2⟩:=A.sound p hp P z;exact⟨t1,t2 hP⟩
noncomputable def Ht(fl:List (List WP)):List (List WP):=(Bf fl.length).flatMap λi=>Hn (fl.getD i []) (fl.take i)
theorem VG{fl:List (List WP)}{fs:List Str}(ok:∀w∈fl,WOk w∧w.length≤3∧w.map (·.1)=fs){P:List PP}(hP:P.map (·.1)=fs):
 (Ht fl).countP (λp=>Ho p P)=if fl.any (λw=>Ho w P)=true then 1 else 0:=by
 unfold Ht;rw[O2];have go:∀n,n≤fl.length→((Bf n).map λi=>(Hn (fl.getD i []) (fl.take i)).countP λp=>Ho p P).sum=if(fl.take n).any (λw=>Ho w P)=true then 1 else 0:=by
  intro n
  induction n with
  | zero=>intro _;simp
  | succ n ih=>
   intro hn;have e:fl[n]?=some fl[n]:=Aq (by omega);rw[CZ,Ah,Fq,ih (by omega)];simp only[Az,DG,Cf,List.sum_nil,Nat.add_zero];have ed:fl.getD n []=fl[n]:=by rw[Bi,e];rfl
   obtain⟨k1,k2,k3⟩:=ok fl[n] (Dv _);rw[ed,XI k1 k2 (λo ho=>(ok o (AO ho)).1) (hP.trans k3.symm),Iw e,Dq];simp only[BO,List.any_nil,Bool.or_false];by_cases h1:(fl.take n).any (λw=>Ho w P)=true
   · have:¬(Ho fl[n] P=true∧∀o∈fl.take n,Ho o P=false):=λz=>by
      obtain⟨o,ho,to⟩:=BC.mp h1;rw[z.2 o ho] at to;cases to
     rw[if_neg this,if_pos h1,h1];simp
   · have h1':=Db.mpr h1;have al:∀o∈fl.take n,Ho o P=false:=λo ho=>Db.mpr λz=>h1 (BC.mpr ⟨o,ho,z⟩);rw[if_neg h1,h1',Bool.false_or];cases t:Ho fl[n] P with
     | true=>rw[if_pos ⟨rfl,al⟩];simp
     | false=>rw[if_neg (λz=>Ax z.1)];simp
 have:=go fl.length (Ag _);rw[BL] at this;exact this
theorem Su{α β:Type}(r:α→β→Bool)(B:List β):∀A:List α,(A.map λa=>B.countP (r a)).sum=(B.map λb=>A.countP λa=>r a b).sum
 | []=>by
  have:∀B:List β,(B.map λ_=>0).sum=0:=λB=>by
   induction B with
   | nil=>rfl
   | cons x r ih=>rw[Az,Cf,ih]
  simp only[DG,List.sum_nil,List.countP_nil];exact(this B).symm
 | a::A=>by
  rw[Az,Cf,Su r B A];have:∀B:List β,B.countP (r a)+(B.map λb=>A.countP λa=>r a b).sum=(B.map λb=>(a::A).countP λa=>r a b).sum:=λB=>by
   induction B with
   | nil=>rfl
   | cons x B ih=>
    rw[BM,Az,Cf,Az,Cf,←ih,BM]
    split<;>omega
  exact this B
def Ix(ns:List Int)(fs:List Str):List (List PP):=fs.foldl (λps f=>ps.flatMap λp=>ns.map λn=>p++[(f,n)]) [[]]
theorem Sa(ns:List Int)(fs:List Str)(f:Str):Ix ns (fs++[f])=(Ix ns fs).flatMap λp=>ns.map λn=>p++[(f,n)]:=by unfold Ix;rw[List.foldl_append];rfl
theorem Nm{ns:List Int}:∀(n:Nat)(fs:List Str),fs.length=n→∀P∈Ix ns fs,P.map (·.1)=fs:=by
 intro n
 induction n with
 | zero=> intro fs hf P hP;rw[Cu.mp hf] at hP ⊢;rw[Ae.mp (show P∈[[]] from hP)];rfl
 | succ n ih=>
  intro fs hf P hP;rcases FG fs with e | ⟨gs,f,e⟩
  · rw[e] at hf;cases hf
  · have e:fs=gs++[f]:=by rw[e];simp
    subst e;rw[Sa] at hP;obtain⟨q,hq,hP⟩:=Ca.mp hP;obtain⟨n',_,rfl⟩:=AM.mp hP;rw[Ah,ih gs (by simpa using hf) q hq];rfl
def Jo(ns:List Int)(s:HS):Nat:=ns.countP λn=>HN s.1 s.2 n
def Jc(ns:List Int)(w:List WP):Nat:=(w.map λp=>Jo ns p.2).foldr (· * ·) 1
theorem V2(l:List Nat)(x:Nat):(l++[x]).foldr (· * ·) 1=l.foldr (· * ·) 1*x:=by
 induction l with
 | nil=>simp
 | cons a l ih=>rw[EZ,Em,Em,ih,Nat.mul_assoc]
theorem Vr{gs:List Str}{f:Str}(h:(gs++[f]).Pairwise HZ):f ∉ gs:=λhf=>by have:=(FQ.mp h).2.2 f hf f (by simp);exact La this rfl
theorem Sd{ns:List Int}:∀(n:Nat)(w:List WP),w.length=n→(w.map (·.1)).Pairwise HZ→(Ix ns (w.map (·.1))).countP (λP=>Ho w P)=Jc ns w:=by
 intro n
 induction n with
 | zero=> intro w hw _;rw[Cu.mp hw];rfl
 | succ n ih=>
  intro w hw asc;rcases FG w with e | ⟨v,p,e⟩
  · rw[e] at hw;cases hw
  · have e:w=v++[p]:=by rw[e];simp
    subst e;have lv:v.length=n:=by simpa using hw
    rw[Ah] at asc;have av:=(FQ.mp asc).1;have np:p.1 ∉ v.map (·.1):=Vr asc;have iv:=ih v lv av;rw[Ah,show [p].map (·.1)=[p.1] from rfl,Sa,O2];have fld:=Nm (ns:=ns) (v.map (·.1)).length (v.map (·.1)) rfl;have tk:∀P∈Ix ns (v.map (·.1)),∀k:Int,Ho (v++[p]) (P++[(p.1,k)])=(Ho v P && HN p.2.1 p.2.2 k):=λP hP k=>by
     have fP:=fld P hP;have nn:IU P p.1=none:=WG λx hx z=>np (by rw[←fP,←z];exact AC hx);rw[Ju,Kx];congr 1
     · unfold Ho;rw[Bq,AI,AI];have:∀x∈v,Js (P++[(p.1,k)]) x=Js P x:=λx hx=>by
        unfold Js;rw[SC P (p.1,k) x.1 nn,if_neg λz=>np (by rw[←show x.1=p.1 from z];exact AC hx)]
       constructor
       · intro h x hx;rw[←this x hx];exact h x hx
       · intro h x hx;rw[this x hx];exact h x hx
     · exact Sv (by rw[SC P (p.1,k) p.1 nn,if_pos rfl])
    have cw:Jc ns (v++[p])=Jc ns v*Jo ns p.2:=by unfold Jc;rw[Ah];exact V2 _ _
    rw[cw,←iv];have:∀l:List (List PP),(∀P∈l,P∈Ix ns (v.map (·.1)))→(l.map λP=>(ns.map λk=>P++[(p.1,k)]).countP λQ=>Ho (v++[p]) Q).sum=l.countP (λP=>Ho v P)*Jo ns p.2:=λl=>by
     induction l with
     | nil=>intro _;simp
     | cons P l ihl=>
      intro hl;rw[Az,Cf,ihl λQ hQ=>hl Q (AE _ hQ),BM,Ft];have hP:=hl P AD;have e1:((λQ=>Ho (v++[p]) Q)∘λk=>P++[(p.1,k)])=λk=>Ho v P && HN p.2.1 p.2.2 k:=funext λk=>tk P hP k;rw[e1];cases t:Ho v P with
      | true=> simp only[EK,if_true];rw[Nat.add_mul,Nat.one_mul,Fg];rfl
      | false=> simp only[Bool.false_and,BH,if_false,Nat.add_zero];rw[D5.mpr λk _ z=>Ax z,Nat.zero_add]
    exact this _ λP h=>h
def Iy(s:HS):Bool:=s.1.isSome && s.2.isSome
def Ib(w:List WP):Bool:=w.all λp=>Iy p.2
def Jm(s:HS):Option Int:=match s.1,s.2 with
 | some l,some h=>some (h - l+1)
 | _,_=>none
def Jd(w:List WP):Int:=(w.map λp=>(Jm p.2).getD 0).foldr (· * ·) 1
def Iu(w:List WP):Option Int:=if Ib w=true then some (Jd w) else none
theorem Oi{s:HS}(h:Iy s=true):∃l u,s=(some l,some u):=by
 obtain⟨a,b⟩:=s;cases a with
 | none=>cases h
 | some l=>
  cases b with
  | none=>cases h
  | some u=>exact⟨l,u,rfl⟩
theorem SE(w:List WP)(p:WP):Jd (w++[p])=Jd w*(Jm p.2).getD 0:=by
 unfold Jd;rw[Ah];show((w.map λp=>(Jm p.2).getD 0)++[(Jm p.2).getD 0]).foldr (· * ·) 1=_;generalize(w.map λp=>(Jm p.2).getD 0)=l;generalize(Jm p.2).getD 0=x
 induction l with
 | nil=>simp
 | cons a l ih=>rw[EZ,Em,Em,ih,Int.mul_assoc]
theorem SM(a b:Nat)(h:a≤b):∀k,(Bf k).countP (λt=>decide (a≤t∧t<b))=min b k - a
 | 0=>by simp
 | k+1=>by
  rw[CZ,CV,SM a b h k,C4];by_cases c:a≤k∧k<b
  · rw[if_pos (decide_eq_true c)];omega
  · rw[if_neg (by simpa using c)];omega
theorem Ud{lo sz m:Int}{k:Nat}{s:HS}(hk:(k:Int)=m+1)(hz:1≤sz)(g:OnGrid lo sz m s)(b:Iy s=true)(le:IS s.1 s.2=true):(Jm s).getD 0=sz*(Jo (Jv lo sz k) s:Int):=by
 obtain⟨l,u,rfl⟩:=Oi b;obtain⟨i,i0,i1,ei⟩:=g.low l rfl;obtain⟨j,j0,j1,ej⟩:=g.high u rfl;have le:l≤u:=of_decide_eq_true le;have hij:i<j:=EW (a:=sz) (by omega) (by omega);have ec:Jo (Jv lo sz k) (some l,some u)=(Bf k).countP (λt=>decide ((i+1).toNat≤t∧t<(j+1).toNat)):=by
  unfold Jo Jv;rw[Ft];congr 1;funext t;show HN (some l) (some u) (lo+sz*(-1+(t:Int)))=_;rw[Bq,decide_eq_true_iff];simp only[HN,II,IT,Ay,decide_eq_true_iff];rw[ei,ej];constructor
  · rintro⟨h1,h2⟩;have h1:i≤ -1+(t:Int):=Int.le_of_mul_le_mul_left (a:=sz) (by omega) (by omega);have h2: -1+(t:Int)<j:=EW (a:=sz) (by omega) (by omega);omega
  · rintro⟨h1,h2⟩;have h1:sz*i≤sz*(-1+(t:Int)):=CG (by omega) (by omega);have h2:sz*(-1+(t:Int))<sz*j:=Int.mul_lt_mul_of_pos_left (by omega) (by omega);omega
 rw[ec,SM _ _ (by omega)];have:((min (j+1).toNat k - (i+1).toNat:Nat):Int)=j - i:=by omega
 rw[this];show u - l+1=_;rw[Int.mul_sub];omega
theorem Ox{lo sz m:Int}{k:Nat}(hk:(k:Int)=m+1)(hz:1≤sz):∀w:List WP,(∀p∈w,OnGrid lo sz m p.2∧Iy p.2=true∧IS p.2.1 p.2.2=true)→Jd w=sz^w.length*(Jc (Jv lo sz k) w:Int)
 | [],_=>by simp[Jd,Jc]
 | p::w,h=>by obtain⟨g,b,le⟩:=h p AD;have ih:=Ox hk hz w λx hx=>h x (AE _ hx);have e1:Jd (p::w)=(Jm p.2).getD 0*Jd w:=rfl;have e2:Jc (Jv lo sz k) (p::w)=Jo (Jv lo sz k) p.2*Jc (Jv lo sz k) w:=rfl;rw[e1,e2,ih,Ud hk hz g b le,AN,Int.pow_succ,Int.natCast_mul];generalize(Jo (Jv lo sz k) p.2:Int)=c;generalize(Jc (Jv lo sz k) w:Int)=d;generalize sz^w.length=e;rw[Int.mul_assoc,Int.mul_assoc,Int.mul_left_comm c e d,Int.mul_left_comm sz e]
theorem Wg{s t r:HS}(hs:Iy s=true)(hr:r∈IX s t):Iy r=true:=by
 obtain⟨a,b,rfl⟩:=Oi hs;obtain⟨c,d⟩:=t;unfold IX below above at hr;rcases As.mp hr with z | z
 · cases c with
   | none=>simp at z
   | some l=>
    by_cases e:a=l
    · simp[e] at z
    · simp[e] at z;rw[z];rfl
 · cases d with
   | none=>simp at z
   | some l=>
    by_cases e:b=l
    · simp[e] at z
    · simp[e] at z;rw[z];rfl
theorem UB{s t:HS}(hs:Iy s=true):Iy (IE s.1 t.1,IF s.2 t.2)=true:=by obtain⟨a,b,rfl⟩:=Oi hs;obtain⟨c,d⟩:=t;cases c<;>cases d<;>simp[IE,IF,Iy]<;>(try split)<;>(try split)<;>simp
theorem UC{w o:List WP}(kw:WOk w)(ko:WOk o)(hw:Ib w=true):∀r∈one w o,Ib r=true:=by
 intro r hr;unfold one at hr
 split at hr
 · rw[Ae.mp hr];exact hw
 · split at hr
   · rw[Ae.mp hr];exact hw
   · rename_i hl;obtain⟨m,im⟩:=Om kw ko;rw[Mh im] at hl hr;have hf:=No kw im (by omega);have bm:∀q∈m,Iy q.2=true:=λq hq=>by
      have e:=im.sp q.1;rw[Ll im.asc hq] at e;have:q.1∈w.map (·.1):=by rw[←hf];exact AC hq
      obtain⟨s,es⟩:=RE this;obtain⟨x,hx,_,e2⟩:=Ki es;have bs:Iy s=true:=by rw[←e2];exact AI.mp hw x hx
      rw[es] at e;cases eo:Hv o q.1 with
      | none=>rw[eo] at e;rw[AB e];exact bs
      | some t=>rw[eo] at e;rw[AB e];exact UB bs
     obtain⟨i,_,hc⟩:=Ca.mp hr;unfold IK at hc;cases e1:w[i]? with
     | none=>rw[e1] at hc;simp at hc
     | some p=>
      cases e2:m[i]? with
      | none=>rw[e1,e2] at hc;simp at hc
      | some q=>
       rw[e1,e2] at hc;obtain⟨b,hb,rfl⟩:=AM.mp hc;refine AI.mpr λx hx=>?_;rcases As.mp hx with z | z
       · rcases As.mp z with z | z
         · exact bm x (AO z)
         · rw[Ae.mp z];exact Wg (AI.mp hw p (Ak e1)) hb
       · exact AI.mp hw x (Cb z)
theorem VI{w:List WP}{os:List (List WP)}(kw:WOk w)(lw:w.length≤3)(ho:∀o∈os,WOk o)(hw:Ib w=true):∀p∈Hn w os,Ib p=true:=by
 have go:∀(os2 os1:List (List WP)),(∀o∈os1++os2,WOk o)→(∀p∈Hn w os1,Ib p=true)→∀p∈Hn w (os1++os2),Ib p=true:=by
  intro os2
  induction os2 with
  | nil=>intro os1 _ h;rw[Ch];exact h
  | cons o os2 ih=>
   intro os1 hk h;have:=ih (os1++[o]) (by rw[Bn];exact hk) λp hp=>?_
   · rw[Bn] at this;exact this
   · rw[Ml] at hp;obtain⟨q,hq,hp⟩:=Ca.mp hp;exact UC ((LY kw lw (os:=os1) λx hx=>hk x (Bu _ hx)).ok q hq).1 (hk o (Aj _ AD)) (h q hq) p hp
 exact go os [] (by simpa using ho) λp hp=>by rw[Ae.mp (show p∈[w] from hp)];exact hw
noncomputable def Il(fl:List (List WP)):Option Int:=if(Ht fl).all Ib=true then some (((Ht fl).map Jd).sum) else none
theorem mem_partsAll{fl:List (List WP)}{p:List WP}:p∈Ht fl↔∃i w,fl[i]?=some w∧p∈Hn w (fl.take i):=by
 unfold Ht;rw[List.mem_flatMap];constructor
 · rintro⟨i,hi,hp⟩;have hi:=CI.mp hi;have e:fl[i]?=some fl[i]:=Aq hi;rw[show fl.getD i []=fl[i] by rw[Bi,e];rfl] at hp;exact⟨i,_,e,hp⟩
 · rintro⟨i,w,e,hp⟩;refine⟨i,CI.mpr (An.mp e).1,?_⟩;rw[show fl.getD i []=w by rw[Bi,e];rfl];exact hp
theorem QV(c:Int):∀l:List Nat,(l.map λn:Nat=>c*(n:Int)).sum=c*(l.sum:Int)
 | []=>by simp
 | n::l=>by rw[Az,Cf,QV c l,Cf,Int.natCast_add,Int.mul_add]
theorem QU{α:Type}(f:α→Bool):∀l:List α,(l.map λx=>if f x=true then 1 else 0).sum=l.countP f
 | []=>rfl
 | x::l=>by rw[Az,Cf,QU f l,BM,Fg]
theorem WA{lo sz m:Int}{k:Nat}{fl:List (List WP)}{fs:List Str}(hk:(k:Int)=m+1)(hz:1≤sz)
 (ok:∀w∈fl,WOk w∧w.length≤3∧w.map (·.1)=fs) (g:∀w∈fl,Iv lo sz m w) (b:∀w∈fl,Ib w=true):
 Il fl=some (sz^fs.length*((Ix (Jv lo sz k) fs).countP (λP=>fl.any λw=>Ho w P):Int)):=by
 have okp:∀p∈Ht fl,(WOk p∧p.map (·.1)=fs)∧Iv lo sz m p∧Ib p=true:=λp hp=>by obtain⟨i,w,e,hp⟩:=mem_partsAll.mp hp;have hw:=Ak e;obtain⟨k1,k2,k3⟩:=ok w hw;have ho:∀o∈fl.take i,WOk o:=λo ho=>(ok o (AO ho)).1;have A:=LY k1 k2 ho;exact⟨⟨(A.ok p hp).1,(A.ok p hp).2.trans k3⟩,SA (g w hw) (λo ho=>g o (AO ho)) p hp,VI k1 k2 ho (b w hw) p hp⟩
 unfold Il;rw[if_pos (AI.mpr λp hp=>(okp p hp).2.2)];congr 1;have e1:(Ht fl).map Jd=((Ht fl).map λp=>(Ix (Jv lo sz k) fs).countP λP=>Ho p P).map λn:Nat=>sz^fs.length*(n:Int):=by
  rw[BP];refine CH λp hp=>?_;obtain⟨⟨kp,fp⟩,gp,bp⟩:=okp p hp;have:=Ox hk hz p λx hx=>⟨gp x hx,AI.mp bp x hx,(kp.ok x hx).2⟩;have lp:p.length=fs.length:=by rw[←fp,Ab]
  rw[this,lp];show _=sz^fs.length*(((Ix (Jv lo sz k) fs).countP λP=>Ho p P:Nat):Int);rw[←fp,Sd p.length p rfl kp.asc]
 rw[e1,QV];congr 2;rw[Su (λp P=>Ho p P)];have e2:((Ix (Jv lo sz k) fs).map λP=>(Ht fl).countP λp=>Ho p P)=(Ix (Jv lo sz k) fs).map λP=>if(fl.any λw=>Ho w P)=true then 1 else 0:=
  CH λP hP=>VG ok (Nm _ fs rfl P hP)
 rw[e2,QU]
def IL(told:List Str)(w:List WP):List WP:=told.map λf=>(f,(Hv w f).getD (none,none))
def Ji(told:List Str)(w:List WP):Bool:=w.all λp=>decide (p.1∈told)
theorem X3(told:List Str)(w:List WP):(IL told w).map (·.1)=told:=by unfold IL;rw[BP];exact Ez _
theorem Si{w:List WP}{f:Str}:(∃p∈w,p.1=f∧(Hv w f).getD (none,none)=p.2)∨(Hv w f).getD (none,none)=(none,none):=by
 cases e:Hv w f with
 | none=>exact .inr rfl
 | some s=> obtain⟨p,hp,e1,e2⟩:=Ki e;exact .inl ⟨p,hp,e1,e2.symm⟩
theorem UG{told:List Str}{w:List WP}(lt:told.length≤3)(fo:∀f∈told,FieldOk f)(asc:told.Pairwise HZ)(kw:WOk w):WOk (IL told w):=by
 refine⟨by unfold IL;rw[Ab];omega,λp hp=>?_,by rw[X3];exact asc⟩;obtain⟨f,hf,rfl⟩:=AM.mp hp;refine⟨fo f hf,?_⟩;rcases Si (w:=w) (f:=f) with⟨q,hq,_,e⟩ | e
 · show IS ((Hv w f).getD (none,none)).1 ((Hv w f).getD (none,none)).2=true;rw[e];exact(kw.ok q hq).2
 · show IS ((Hv w f).getD (none,none)).1 ((Hv w f).getD (none,none)).2=true;rw[e];rfl
theorem Vz{lo sz m:Int}{told:List Str}{w:List WP}(g:Iv lo sz m w):Iv lo sz m (IL told w):=λp hp=>by
 obtain⟨f,hf,rfl⟩:=AM.mp hp;show OnGrid lo sz m ((Hv w f).getD (none,none));rcases Si (w:=w) (f:=f) with⟨q,hq,_,e⟩ | e
 · rw[e];exact g q hq
 · rw[e];exact⟨λl z=>(nomatch z),λl z=>(nomatch z)⟩
structure FunD(K:Ai)(x:Str)(st:Stmt)(f:Addr)(fd:BA):Prop where
 ex:∃(oc:Value)(od:Option Addr)(T:Addr)(o:Obj)(m:Nat)(kV doc pm:Value)(an:Option Addr)(cdv ct:Value)(osl:Array (Option Value)),
  fd=C8 x x (JI st) (J8 st) (Hy st) (.ref T) kV doc pm an cdv ct∧K.lookup f=some ⟨oc,od,.func fd,osl⟩∧DL K cdv x=true∧K.lookup T=some o∧o.data= .seq #[.none] m
 kp:Df K (.ref f)=true
section
variable{mg:Str→Option Value}{base:Heap}
theorem FunD.ok{st:Stmt}{f:Addr}{fd:BA}{N ps:List Str}{k:Nat}{sp:Sp}(F:FunD K x st f fd)(S:FnScope N ps (Hy st))(len:∀vs H Q E,sp vs H Q E→vs.length=ps.length)
 (hbody:∀(cdv:Value)(A:Cy)(outer:List Env)(s:Shared)(H:Hp)(vs:List V)(Q:VK)(E:XK),Room k (A.deeper (envOfC x (Hy st) s.heap.objs.size f cdv))→sp vs H Q E→
  ∃t,PSs (J4 HJ P w K mg base N x (Hy st) f cdv A outer s H E).nox (J8 st) t∧t {nx:=λ_ H'=>Q .non H',rt:=Q} (Kr N vs) H):FnOk P w K mg base HJ (k+1) f fd ps sp:=by
 obtain⟨oc,od,T,o,m,kV,doc,pm,an,cdv,ct,osl,rfl,lk,hcd,_,_⟩:=F.ex;refine PR lk hcd S len λA outer s H vs Q E hr hsp=>?_;obtain⟨t,h,q⟩:=hbody cdv A outer s H vs Q E hr hsp;exact⟨t,h.nox,q⟩
theorem funD_mk{st:Stmt}{f T:Addr}{oc oc':Value}{od an od':Option Addr}{osl osl':Array (Option Value)}{m:Nat}{kV doc pm cdv ct:Value}(l:K.lookup f=some ⟨oc,od,.func (C8 x x (JI st) (J8 st) (Hy st) (.ref T) kV doc pm an cdv ct),osl⟩)
 (c:DL K cdv x=true) (k:Df K (.ref f)=true) (t:K.lookup T=some ⟨oc',od',.seq #[.none] m,osl'⟩):FunD K x st f (C8 x x (JI st) (J8 st) (Hy st) (.ref T) kV doc pm an cdv ct):=⟨⟨oc,od,T,_,m,kV,doc,pm,an,cdv,ct,osl,rfl,l,c,t,rfl⟩,k⟩
def g2{α:Type}:List α→List α→List α
 | [a],[b]=>[a,b]
 | _,_=>[]
theorem Tg{vs:List V}{zs:List V}{ws:List Value}(h1:Vals vs us)(h2:Vals zs ws):Vals (g2 vs zs) (g2 us ws):=by
 cases h1 with
 | nil=>exact .nil
 | cons r t=>
  cases t with
  | cons r' t'=>exact .nil
  | nil=>
   cases h2 with
   | nil=>exact .nil
   | cons r2 t2=>
    cases t2 with
    | nil=>exact .cons r (.cons r2 .nil)
    | cons r' t'=>exact .nil
def MO(P:Bt)(w:World)(K:Ai)(mg:Str→Option Value)(base:Heap)(k:Nat)(x:Str)(p1 p2:Str)(sp:Sp):Prop:=
 ∃f fd,FnOk P w K mg base HJ k f fd [p1,p2] sp∧Binds K fd [p1,p2] []∧Binds K fd [p1,p2] [.none]∧KBinds K fd [p1,p2] [p2] g2 g2∧Df K (.ref f)=true∧mg x=some (.ref f)
end
section
variable{k:Nat}{p1 p2:Str}{sp:Sp}{e1 e2:Expr}{t tk:TA}{p kpos:Pos}
theorem Uh(F:MO X.prog X.w X.K X.mg X.base k x p1 p2 sp)(hr:Room k X.A)(hg:Gl X x)(ha:PA X [e1,e2] t)(hdb:(x==("__debug__":Str))=false:=by decide)
 (he:AL [e1,e2] X.env=(false,eval e1 X.env)::AL [e2] X.env:=by rfl) (hpl:(backTo pos (AL [e2] X.env)).any (·.1)=false:=by rfl):PE X (.Call (.Name x p) [e1,e2] [] pos) (NM sp [] E0 t):=by
 obtain⟨f,fd,h1,h2,h3,h4,h5,h6⟩:=F;exact QX h1 hr hg h6 h5 h2 .nil PY ha hdb he hpl
end
def QO:Sp:=λvs H Q _=>∃(a:Addr)(w:List WP),vs=[.ref a]∧WishAt H a w∧WOk w∧(∀p∈w,∀l h,p.2=(some l,some h)→ -(2^64)<h - l+1∧h - l+1<2^64)∧∀H',Same H H'→Q (eV (Iu w)) H'
def R4:Sp:=λvs H Q _=>∃(a l:Addr)(w:List WP)(fs:List Str),vs=[.ref a,.ref l]∧WishAt H a w∧WOk w∧H l=some (.lst (fs.map V.str))∧∀H',Same H H'→Q (.bl (Ji fs w)) H'
def Qu:Sp:=λvs H Q _=>∃(a l:Addr)(w:List WP)(fs:List Str),vs=[.ref a,.ref l]∧WishAt H a w∧WOk w∧H l=some (.lst (fs.map V.str))∧fs.length≤3∧∀(r:Addr)(H':Hp),Same H H'→WishAt H' r (IL fs w)→Q (.ref r) H'
structure ToldF(fs:List Str):Prop where
 len:fs.length≤3
 ok:∀f∈fs,FieldOk f
 asc:fs.Pairwise HZ
noncomputable def Iq(fs:List Str)(ws:List (List WP)):Option Int:=Il ((ws.filter λx=>Ji fs x).map λx=>IL fs x)
def NN(sz m:Int):Prop:=1≤sz∧0≤m∧sz*m≤10^18
def R7:Sp:=λvs H Q _=>∃(l f:Addr)(ws:List (Addr×List WP))(fs:List Str)(lo sz m:Int),vs=[.ref l,.ref f]∧WsAt H l ws∧ws.length≤7∧H f=some (.lst (fs.map V.str))∧ToldF fs∧NN sz m∧(∀x∈ws,Iv lo sz m x.2)∧∀H',Same H H'→Q (eV (Iq fs (ws.map (·.2)))) H'
def QP:Sp:=λvs H Q _=>∃(f:Addr)(fs:List Str),vs=[.ref f]∧H f=some (.lst (fs.map V.str))∧ToldF fs∧∀H',Same H H'→Q (.bl true) H'
def Qt:Sp:=λvs H Q _=>∃(f:Addr)(fs:List Str),vs=[.ref f]∧H f=some (.lst (fs.map V.str))∧ToldF fs∧∀H',Same H H'→Q .non H'
structure FieldsOf(ws:List (List WP))(fs:List Str):Prop where
 asc:fs.Pairwise HZ
 mem:∀f,f∈fs↔∃x∈ws,f∈x.map (·.1)
theorem FieldsOf.uniq{ws:List (List WP)}{fs gs:List Str}(h:FieldsOf ws fs)(h':FieldsOf ws gs):fs=gs:=by have s1:=Ld gs fs h.asc h'.asc λx hx=>(h'.mem x).mpr ((h.mem x).mp hx);have s2:=Ld fs gs h'.asc h.asc λx hx=>(h.mem x).mpr ((h'.mem x).mp hx);exact s1.eq_of_length (Nat.le_antisymm s1.length_le s2.length_le)
def QQ:Sp:=λvs H Q _=>∃(l:Addr)(v:V)(ws:List (Addr×List WP))(ns fs:List Str)(lo sz m:Int),vs=[.ref l,v]∧WsAt H l ws∧ws.length≤7∧ToldF ns∧(∀x∈ws,Lr ns x.2)∧ToldF fs∧(v= .non∧FieldsOf (ws.map (·.2)) fs∨∃f,v= .ref f∧H f=some (.lst (fs.map V.str)))∧NN sz m∧(∀x∈ws,Iv lo sz m x.2)∧∀H',Same H H'→Q (eV (Iq fs (ws.map (·.2)))) H'
section
variable{it d:Addr}{ep:Nat}{as:List Addr}
end
section
variable{tg:Expr}
end
section
variable{d:Addr}{ks:List (Addr×List WP)}
end
section
variable{tg iter kx vx:Expr}{ifs:List Expr}{wi:TI}{js:Im}{g:TG}{tc:TT}{tk tv:TE}{N':List Str}
end
theorem UY{g:TG}{tb:TS}{D:Ends}(Pv:Nat→St→Hp→Prop)(h0:Pv 0 σ H)(hl:∀i σ H,i≤xs.length→Pv i σ H→SqL K H a xs)
 (hs:∀i x q σ H,xs[i]?=some x→H q=none→Pv i σ H→g (.ref q) σ (Hh H q (.tup [.int i,x])) λσ2 H2=>tb {D with nx:=Pv (i+1),ct:=Pv (i+1),bk:=D.nx} σ2 H2) (hd:∀σ H,Pv xs.length σ H→D.nx σ H):
 ∃W:Nat→Nat→St→Hp→Prop,(∃m,W 0 m σ H)∧∀i m σ H,W i m σ H→
  ((MN K a).stop i H∧D.nx σ H)∨((MN K a).go i H∧∃N:St→Hp→Prop,(∀σ' H',N σ' H'→∃m',m'<m∧W (i+1) m' σ' H')∧∀x H',(MN K a).yld i H x H'→g x σ H' λσ2 H2=>tb {D with nx:=N,ct:=N,bk:=D.nx} σ2 H2):=by
 refine⟨λi m σ H=>m=xs.length - i∧i≤xs.length∧Pv i σ H,⟨xs.length,by simp,Bo _,h0⟩,?_⟩;rintro i m σ H ⟨rfl,hi,p⟩;have q:=hl i σ H hi p;by_cases hlt:i<xs.length
 · have e1:xs[i]?=some (xs[i]'hlt):=by simp
   refine .inr ⟨⟨xs,_,q,e1⟩,Pv (i+1),λσ' H' p'=>⟨xs.length - (i+1),by omega,rfl,hlt,p'⟩,λx H' y=>?_⟩;obtain⟨c,rfl,hc,y⟩:=y;rw[y xs _ q e1];exact hs i _ c σ H e1 hc p
 · have e:i=xs.length:=by omega
   subst e;exact .inl ⟨⟨xs,q,Ag _⟩,hd σ H p⟩
theorem Ol(f:Str):∀fs:List Str,KJ (.str f) (fs.map V.str)=decide (f∈fs)
 | []=>rfl
 | g::fs=>by have ih:=Ol f fs;unfold KJ at ih ⊢;rw[Az,BO,ih];have e1:JR (V.str g) (V.str f)=decide (g=f):=rfl;rw[e1,Bq,Fu,decide_eq_true_iff,decide_eq_true_iff,decide_eq_true_iff,Al];exact⟨λh=>h.imp Eq.symm id,λh=>h.imp Eq.symm id⟩
theorem Sj(fs:List Str):(fs.map V.str).all JK=true:=by rw[Ek];exact AI.mpr λ_ _=>rfl
theorem Ro:∀os:List (Option Int),KJ .non (os.map eV)=os.any (·.isNone)
 | []=>rfl
 | o::os=>by have ih:=Ro os;unfold KJ at ih ⊢;rw[Az,BO,ih,BO];cases o<;>rfl
theorem V1(os:List (Option Int)):(os.map eV).all JK=true:=by rw[Ek];exact AI.mpr λo _=>by cases o<;>rfl
theorem Sg:∀(os:List (Option Int)),os.any (·.isNone)=false→os.map eV=(os.map λo=>o.getD 0).map V.int
 | [],_=>rfl
 | o::os,h=>by
  rw[BO,Bool.or_eq_false_iff] at h;rw[Az,Az,Az,Sg os h.2];cases o with
  | none=>cases h.1
  | some i=>rfl
theorem V8(l:List (List WP)):(l.map Iu).any (·.isNone)=!l.all Ib∧(l.all Ib=true→(l.map Iu).map (λo=>o.getD 0)=l.map Jd):=by
 constructor
 · rw[List.any_map]
   induction l with
   | nil=>rfl
   | cons x l ih=> rw[BO,Da,ih];unfold Iu;dsimp only[DZ];cases Ib x<;>simp
 · intro h;rw[BP];refine CH λx hx=>?_;have:=AI.mp h x hx;show(Iu x).getD 0=_;unfold Iu;rw[if_pos this];rfl
theorem Rb:∀ws:List (Addr×List WP),(∀x∈ws,WishAt H x.1 x.2)→Reps K H ((ws.map (·.2)).map dW) (ws.map λx=>V.ref x.1)
 | [],_=>by show Reps K H [] [];rw[Reps]
 | x::ws,h=>by show Reps K H (dW x.2::_) (V.ref x.1::_);rw[Reps];exact⟨_,_,rfl,TL (h x AD),Rb ws λy hy=>h y (AE _ hy)⟩
theorem Se:∀ws:List (List WP),I_ (ws.map dW)≤2
 | []=>by show I_ []≤2;rw[I_];omega
 | w::ws=>by rw[Az,I_];have h1:=UE w;have h2:=Se ws;omega
abbrev bL:Int:=2000000000000000
structure BoxOk(fs:List Str)(w:List WP):Prop where
 ok:WOk w
 fl:w.map (·.1)=fs
 ends:∀p∈w,∃l h,p.2=(some l,some h)∧ -bL≤l∧l≤h∧h≤bL
theorem BoxOk.bdd{fs:List Str}{w:List WP}(h:BoxOk fs w):Ib w=true:=AI.mpr λp hp=>by obtain⟨l,u,e,_⟩:=h.ends p hp;rw[e];rfl
abbrev bM:Int:=4000000000000002
abbrev Kn:Int:= -bL
theorem BoxOk.grid{fs:List Str}{w:List WP}(h:BoxOk fs w):Iv Kn 1 bM w:=λp hp=>by
 obtain⟨l,u,e,h1,h2,h3⟩:=h.ends p hp;have h1: -2000000000000000≤l:=h1;have h3:u≤2000000000000000:=h3;refine⟨λl' e'=>?_,λu' e'=>?_⟩
 · rw[e] at e';cases e';exact⟨l+2000000000000000,by omega,by show l+2000000000000000<4000000000000002;omega,by show l= -2000000000000000+1*(l+2000000000000000);omega⟩
 · rw[e] at e';cases e';exact⟨u+2000000000000000+1,by omega,by show u+2000000000000000+1<4000000000000002;omega,by show u= -2000000000000000+1*(u+2000000000000000+1) - 1;omega⟩
noncomputable def IG(fs:List Str)(f:List PP→Bool):Nat:=(Ix (Jv Kn 1 (bM+1).toNat) fs).countP f
theorem Sy{fs:List Str}{f g:List PP→Bool}(h:∀P,P.map (·.1)=fs→f P=g P):IG fs f=IG fs g:=
 List.countP_congr λP hP=>by rw[h P (Nm _ fs rfl P hP)]
theorem Vh{fs:List Str}{fl:List (List WP)}(lf:fs.length≤3)(h:∀w∈fl,BoxOk fs w):Il fl=some ((IG fs λP=>fl.any λw=>Ho w P:Nat):Int):=by have:=WA (lo:=Kn) (sz:=1) (m:=bM) (k:=(bM+1).toNat) (fl:=fl) (fs:=fs) (by decide) (by decide) (λw hw=>⟨(h w hw).ok,by have:=congrArg Be (h w hw).fl;rw[Ab] at this;omega,(h w hw).fl⟩) (λw hw=>(h w hw).grid) (λw hw=>(h w hw).bdd);rw[this,Int.one_pow,Int.one_mul];rfl
theorem Ow{fs:List Str}{w:List WP}(h:BoxOk fs w):Jd w=((IG fs λP=>Ho w P:Nat):Int):=by have h1:=Ox (lo:=Kn) (sz:=1) (m:=bM) (k:=(bM+1).toNat) (by decide) (by decide) w λp hp=>⟨h.grid p hp,AI.mp h.bdd p hp,(h.ok.ok p hp).2⟩;rw[h1,Int.one_pow,Int.one_mul];unfold IG;rw[←h.fl,Sd w.length w rfl h.ok.asc]
theorem Vs{fs:List Str}{f g h:List PP→Bool}(e:∀P,P.map (·.1)=fs→(f P=(g P || h P))∧(g P && h P)=false):IG fs f=IG fs g+IG fs h:=by
 unfold IG;have:∀l:List (List PP),(∀P∈l,P.map (·.1)=fs)→l.countP f=l.countP g+l.countP h:=λl=>by
  induction l with
  | nil=>intro _;rfl
  | cons P l ih=>
   intro hl;rw[BM,BM,BM,ih λQ hQ=>hl Q (AE _ hQ)];obtain⟨e1,e2⟩:=e P (hl P AD);rw[e1];cases hg:g P with
   | false=>
    cases hh:h P with
    | false=>simp
    | true=>simp;omega
   | true=>
    cases hh:h P with
    | false=>simp;omega
    | true=>rw[hg,hh] at e2;cases e2
 exact this _ λP hP=>Nm _ fs rfl P hP
def JL(w:List WP)(ps:List (List WP)):Prop:=∀P,ps.countP (λp=>Ho p P)=if Ho w P=true then 1 else 0
theorem SF(w:List WP):JL w [w]:=λP=>by rw[C4]
theorem WV{w:List WP}{A B C:List (List WP)}{p:List WP}(h:JL w (A++p::B))(hc:JL p C):JL w (A++C++B):=λP=>by
 have h1:=h P;have h2:=hc P;rw[CV,BM] at h1;rw[CV,CV,h2,←h1]
 split<;>omega
theorem OA{w:List WP}{ps:List (List WP)}(h:JL w ps)(P:List PP):ps.any (λp=>Ho p P)=Ho w P:=by
 have:=h P;rw[Bq,BC];constructor
 · rintro⟨p,hp,t⟩;have pos:=(Cw (p:=λp=>Ho p P)).mpr ⟨p,hp,t⟩;by_cases c:Ho w P=true
   · exact c
   · rw[if_neg c] at this;omega
 · intro t;rw[if_pos t] at this;exact(Cw (p:=λp=>Ho p P)).mp (by omega)
theorem Xr{w p:List WP}{A B:List (List WP)}(h:JL w (A++p::B))(P:List PP):(Ho w P=(Ho p P || (A++B).any λp=>Ho p P))∧(Ho p P && (A++B).any λp=>Ho p P)=false:=by
 have h1:=h P;have h2:=OA h P;rw[Dq,BO] at h2;refine⟨?_,?_⟩
 · rw[←h2,Dq];cases A.any (λp=>Ho p P)<;>cases Ho p P<;>cases B.any (λp=>Ho p P)<;>rfl
 · cases t:Ho p P with
   | false=>rfl
   | true=>
    rw[EK];refine Db.mpr λz=>?_;obtain⟨q,hq,tq⟩:=BC.mp z;have pos:=(Cw (p:=λp=>Ho p P)).mpr ⟨q,hq,tq⟩;rw[CV] at pos h1;rw[BM,t] at h1;simp only[if_true] at h1
    split at h1<;>omega
def HL(w:List WP)(i:Nat)(p:WP):List WP:=w.take i++[p]++w.drop (i+1)
theorem OB{w:List WP}{p:WP}(e:w[i]?=some p):HL w i p=w:=by
 have hi:=(An.mp e).1;have he:=(An.mp e).2;unfold HL;rw[Bn]
 conv=>rhs;rw[←CY i w,C5 hi,he]
 rfl
theorem Mm(w:List WP)(i:Nat)(p:WP)(P:List PP):Ho (HL w i p) P=(Ho (w.take i) P && Js P p && Ho (w.drop (i+1)) P):=by unfold HL;rw[Ju,Ju,Kx]
theorem Xl{w:List WP}{p q:WP}(e:w[i]?=some p)(h:q.1=p.1):(HL w i q).map (·.1)=w.map (·.1):=by
 conv=>rhs;rw[←OB e]
 unfold HL;rw[Ah,Ah,Ah,Ah];simp[h]
theorem Nd{fs:List Str}{w:List WP}{p:WP}(h:BoxOk fs w)(e:w[i]?=some p){l u:Int}(h1: -bL≤l)(h2:l≤u)(h3:u≤bL):BoxOk fs (HL w i (p.1,some l,some u)):=by
 have hp:=Ak e;have hf:=Xl (q:=(p.1,some l,some u)) e rfl;have mem:∀x∈HL w i (p.1,some l,some u),x∈w∨x=(p.1,some l,some u):=λx hx=>by
  unfold HL at hx;rcases As.mp hx with z | z
  · rcases As.mp z with z | z
    · exact .inl (AO z)
    · exact .inr (Ae.mp z)
  · exact .inl (Cb z)
 refine⟨⟨?_,λx hx=>?_,by rw[hf];exact h.ok.asc⟩,hf.trans h.fl,λx hx=>?_⟩
 · have:=congrArg Be hf;rw[Ab,Ab] at this;rw[this];exact h.ok.len
 · rcases mem x hx with z | z
   · exact h.ok.ok x z
   · rw[z];exact⟨(h.ok.ok p hp).1,decide_eq_true h2⟩
 · rcases mem x hx with z | z
   · exact h.ends x z
   · exact⟨l,u,by rw[z],h1,h2,h3⟩
theorem Xc{w:List WP}{f:Str}{l u n:Int}(e:w[i]?=some (f,some l,some u))(h1:l≤n)(h2:n<u):JL w [HL w i (f,some l,some n),HL w i (f,some (n+1),some u)]:=λP=>by
 conv=>rhs;rw[←OB e]
 rw[BM,C4,Mm,Mm,Mm];cases Ho (w.take i) P with
 | false=>simp
 | true=>
  cases Ho (w.drop (i+1)) P with
  | false=>simp
  | true=>
   simp only[EK,DV];cases en:IU P f with
   | none=>
    have:∀s:HS,Js P (f,s)=false:=λs=>Db.mpr λz=>by obtain⟨k,hk,_⟩:=takesP_iff.mp z;rw[show((f,s):WP).1=f from rfl,en] at hk;cases hk
    rw[this,this,this];simp
   | some k=>
    have t:∀s:HS,Js P (f,s)=HN s.1 s.2 k:=λs=>Sv (p:=(f,s)) en;rw[t,t,t];simp only[HN,II,IT,Ay,decide_eq_true_iff]
    split<;>split<;>split<;>omega
structure Cont(p w:List WP):Prop where
 at':∀(i:Nat)(q:WP),p[i]?=some q→∃L U l u,w[i]?=some (q.1,some L,some U)∧q.2=(some l,some u)∧L≤l∧u≤U
 len:p.length=w.length
theorem Cont.refl{fs:List Str}{w:List WP}(h:BoxOk fs w):Cont w w:=⟨λi q e=>by obtain⟨l,u,e2,_⟩:=h.ends q (Ak e);obtain⟨f,s⟩:=q;dsimp only at e2;subst e2;exact⟨l,u,l,u,e,rfl,CN _,CN _⟩,rfl⟩
theorem Cont.put{p w:List WP}(h:Cont p w){q:WP}(e:p[i]?=some q){L U l u:Int}(ew:w[i]?=some (q.1,some L,some U))(h1:L≤l)(h2:u≤U):Cont (HL p i (q.1,some l,some u)) w:=by
 have hi:=(An.mp e).1;have lp:(HL p i (q.1,some l,some u)).length=p.length:=by unfold HL;rw[Au,Au,A5,BB];simp;omega
 refine⟨λj r ej=>?_,lp.trans h.len⟩;by_cases c:j=i
 · subst c;have:(HL p j (q.1,some l,some u))[j]?=some (q.1,some l,some u):=by
    unfold HL;rw[Bn,C_ (by rw[A5];omega),A5];simp[DB (AU hi)]
   rw[this] at ej;cases ej;exact⟨L,U,l,u,ew,rfl,h1,h2⟩
 · have:(HL p i (q.1,some l,some u))[j]?=p[j]?:=by
    unfold HL;rw[Bn];by_cases lt:j<i
    · rw[ER (by rw[A5];omega),E9];simp[lt]
    · rw[C_ (by rw[A5];omega),A5,DB (AU hi),C_ (by simp;omega),DI];congr 1;simp;omega
   rw[this] at ej;exact h.at' j r ej
theorem Cont.takes{p w:List WP}(h:Cont p w){P:List PP}(t:Ho p P=true):Ho w P=true:=by
 refine AI.mpr λr hr=>?_;obtain⟨i,hi,e⟩:=Et hr;have hip:i<p.length:=by rw[h.len];exact hi
 have ep:p[i]?=some (p[i]'hip):=Aq hip;obtain⟨L,U,l,u,ew,eq,h1,h2⟩:=h.at' i _ ep;have er:w[i]?=some r:=by rw[Aq hi,e]
 rw[er] at ew;cases ew;obtain⟨k,hk,hb⟩:=takesP_iff.mp (AI.mp t (p[i]'hip) (Dv _));refine takesP_iff.mpr ⟨k,hk,?_⟩;rw[eq] at hb;simp[HN,II,IT] at hb ⊢;omega
theorem Sw{p:List WP}{q:WP}{l u l' u':Int}(e:p[i]?=some q)(eq:q.2=(some l,some u))(h1:l'≤l)(h2:u≤u'){P:List PP}(t:Ho p P=true):Ho (HL p i (q.1,some l',some u')) P=true:=by rw[←OB e,Mm,Ay,Ay] at t;rw[Mm,Ay,Ay];obtain⟨⟨t1,t2⟩,t3⟩:=t;refine⟨⟨t1,?_⟩,t3⟩;obtain⟨k,hk,hb⟩:=takesP_iff.mp t2;refine takesP_iff.mpr ⟨k,hk,?_⟩;rw[eq] at hb;simp[HN,II,IT] at hb ⊢;omega
theorem UF{fs:List Str}{w:List WP}(h:BoxOk fs w):IL fs w=w:=by
 unfold IL;rw[←h.fl,BP];have:∀p∈w,((λf=>(f,(Hv w f).getD (none,none)))∘λx:WP=>x.1) p=id p:=λp hp=>by show(p.1,(Hv w p.1).getD (none,none))=p;rw[Ll h.ok.asc hp];rfl
 rw[CH this,Ez]
theorem WF{fs:List Str}{w:List WP}(h:BoxOk fs w):Ji fs w=true:=AI.mpr λp hp=>decide_eq_true (by rw[←h.fl];exact AC hp)
structure BsAt(fs:List Str)(H:Hp)(r:Addr)(ps:List (Addr×List WP)):Prop where
 at':H r=some (.lst (ps.map λx=>V.ref x.1))
 ok:∀x∈ps,WishAt H x.1 x.2∧BoxOk fs x.2
theorem BsAt.same{fs:List Str}{H':Hp}{r:Addr}{ps:List (Addr×List WP)}(h:BsAt fs H r ps)(s:Same H H'):BsAt fs H' r ps:=⟨s _ _ h.at',λx hx=>⟨(h.ok x hx).1.same s,(h.ok x hx).2⟩⟩
theorem BsAt.sameW{fs:List Str}{H':Hp}{g l:Addr}{n:Int}{r:Addr}{ps:List (Addr×List WP)}(h:BsAt fs H r ps)(B:Well H b g l n)(rb:r≠b)(rg:r≠g)(s:SameB b g H H'):BsAt fs H' r ps:=⟨s _ _ h.at' rb rg,λx hx=>⟨(h.ok x hx).1.sameW B s,(h.ok x hx).2⟩⟩
def Qi:Sp:=λvs H Q _=>∃(b g l a:Addr)(n:Int)(fs:List Str),vs=[.ref b,.ref a,.bl false]∧Well H b g l n∧n≤10^6∧H a=some (.lst (fs.map V.str))∧a≠b∧a≠g∧ToldF fs∧
 ∀(r:Addr)(w:List WP)(H':Hp),WishAt H' r w→BoxOk fs w→Well H' b g l (n+100)→SameB b g H H'→Q (.ref r) H'
def Qj:Sp:=λvs H Q _=>∃(b g l a:Addr)(n:Int)(w:List WP)(fs:List Str),vs=[.ref b,.ref a]∧Well H b g l n∧n≤10^6∧WishAt H a w∧BoxOk fs w∧1≤fs.length∧fs.length≤3∧
 ∀(r:Addr)(ps:List (Addr×List WP))(H':Hp),H r=none→BsAt fs H' r ps→ps.length≤2→1≤ps.length→JL w (ps.map (·.2))→(∀x∈ps,∀v,Cont w v→Cont x.2 v)→Well H' b g l (n+10)→SameB b g H H'→Q (.ref r) H'
def QM:Sp:=λvs H Q _=>∃(b g l a:Addr)(n many:Int)(w:List WP)(fs:List Str),vs=[.ref b,.ref a,.int many]∧Well H b g l n∧n≤10^5∧WishAt H a w∧BoxOk fs w∧1≤fs.length∧fs.length≤3∧0≤many∧many≤6∧
 ∀(r:Addr)(ps:List (Addr×List WP))(H':Hp),H r=none→BsAt fs H' r ps→ps.length≤7→1≤ps.length→JL w (ps.map (·.2))→(∀x∈ps,Cont x.2 w)→Well H' b g l (n+100)→SameB b g H H'→Q (.ref r) H'
def R6:Sp:=λvs H Q _=>∃(b g l a:Addr)(n:Int)(xs:List V),vs=[.ref b,.ref a]∧Well H b g l n∧n≤10^6∧H a=some (.lst xs)∧a≠b∧a≠g∧xs.length≤100∧
 ∀(r:Addr)(ys:List V)(H':Hp),H r=none→H' r=some (.lst ys)→ys.Perm xs→Well H' b g l (n+100)→SameB b g H H'→Q (.ref r) H'
def Qx:Sp:=λvs H Q _=>∃(a:Addr)(w:List WP)(fs:List Str),vs=[.ref a]∧WishAt H a w∧BoxOk fs w∧∀H',Same H H'→Q (.int (Jd w)) H'
def QS:Sp:=λvs H Q _=>∃(b g l a c:Addr)(n:Int)(p w:List WP)(fs:List Str),vs=[.ref b,.ref a,.ref c]∧Well H b g l n∧n≤10^6∧WishAt H a p∧BoxOk fs p∧WishAt H c w∧BoxOk fs w∧Cont p w∧1≤fs.length∧fs.length≤3∧
 ∀(r:Addr)(p':List WP)(H':Hp),WishAt H' r p'→BoxOk fs p'→Cont p' w→(∀P,Ho p P=true→Ho p' P=true)→Well H' b g l (n+2)→SameB b g H H'→Q (.ref r) H'
theorem Nf{Q:VK}{j:Nat}{tf tl th:TE}{k:Nat}{w:List WP}{f:Str}{lo hi:Option Int}(ea:σ[i]?=some (some (V.ref a)))(ej:σ[j]?=some (some (V.int (k:Int))))(hw:WishAt H a w)(hk:w.length≤10)
 (hf:∀(H':Hp)(R:VK),Same H H'→R (.str f) H'→tf σ H' R) (hl:∀(H':Hp)(R:VK),Same H H'→R (eV lo) H'→tl σ H' R) (hh:∀(H':Hp)(R:VK),Same H H'→R (eV hi) H'→th σ H' R)
 (q:∀r H',Same H H'→WishAt H' r (HL w k (f,lo,hi))→Q (.ref r) H'):
 Ky NK (Ky NK (Mt Ln (IP i) LC (LR (IP j))) (Lm (L3 (Lm (L3 tf (L3 tl (L3 th Kz)))) Kz))) (Mt Ln (IP i) (LR (Ky (Km λi j=>V.int (i+j)) (IP j) (tC (.int 1)))) LC) σ H Q:=by
 obtain⟨ps,rfl,hA,hP⟩:=hw;have lp:ps.length≤10:=by simpa using hk
 refine⟨_,ea,_,ej,_,rfl,a,_,rfl,hA,λp1 H1 s1 e1=>?_⟩;rw[Md rfl,←CF] at e1;refine hf _ _ s1 (hl _ _ s1 (hh _ _ s1 ⟨(by show 3≤Av;decide),λc1 hc1=>?_⟩));have s2:=Hx hc1 (.tup [V.str f,eV lo,eV hi]);have e2:(Hh H1 c1 (.tup [V.str f,eV lo,eV hi])) c1=some (.tup [V.str f,eV lo,eV hi]):=Hl;generalize Hh H1 c1 (.tup [V.str f,eV lo,eV hi])=H2 at*;refine⟨(by show 1≤Av;decide),λc2 hc2=>?_⟩;have s3:=Hx hc2 (.tup [V.ref c1]);have e3:(Hh H2 c2 (.tup [V.ref c1])) c2=some (.tup [V.ref c1]):=Hl;generalize Hh H2 c2 (.tup [V.ref c1])=H3 at*;refine⟨p1,c2,_,_,rfl,rfl,s3 _ _ (s2 _ _ e1),e3,(by rw[Ab,A5];exact Kq (by simp;omega)),λd1 H4 s4 e4=>?_⟩;have t3:=s1.trans (s2.trans s3);refine⟨_,ea,_,ej,_,_,rfl,rfl,_,rfl,a,_,rfl,s4 _ _ (t3 _ _ hA),λp2 H5 s5 e5=>?_⟩;rw[M_ (n:=k+1) (by omega),←D0] at e5;refine⟨d1,p2,_,_,rfl,rfl,s5 _ _ e4,e5,(by rw[Au,Ab,A5,Ab,BB];exact Kq (by simp;omega)),λd2 H6 s6 e6=>?_⟩;have t6:=t3.trans (s4.trans (s5.trans s6));have e7:((ps.take k).map λp:Addr×WP=>V.ref p.1)++[V.ref c1]++(ps.drop (k+1)).map (λp:Addr×WP=>V.ref p.1)=(ps.take k++[((c1,f,lo,hi):Addr×WP)]++ps.drop (k+1)).map λp:Addr×WP=>V.ref p.1:=by simp
 rw[e7] at e6;refine q d2 H6 t6 ⟨_,?_,e6,λy hy=>?_⟩
 · unfold HL;rw[Ah,Ah,CF,D0];rfl
 · rcases As.mp hy with y1 | y1
   · rcases As.mp y1 with y2 | y2
     · exact t6 _ _ (hP y (AO y2))
     · rw[Ae.mp y2];exact s6 _ _ (s5 _ _ (s4 _ _ (s3 _ _ e2)))
   · exact t6 _ _ (hP y (Cb y1))
theorem Tw{o:Expr}{es:List Expr}{to:TE}{t:TA}{name:Str}{apos cpos:Pos}{T id:String}{r:V→List V→Hp→VK→Prop}(K:Ai)(hK:X.K=K)(pa:PlainAttrs T)(slot:Slot T name id)(hty:typeOf (.builtin id)=pure (.type "method_descriptor"))(hm:Tb X id r)(ho:PE X o to)(ha:PA X (e::es) t)
 (hbase:attributeBase o name X.env (eval o X.env)=eval o X.env:=by rfl)
 (hfew:((backTo cpos (AL (e::es) X.env)).all (λx=>!x.1) && (backToKw cpos (keywordEach [] X.env)).all (λx=>x.1.isSome)
  && decide ((e::es).length+([]:List Keyword).length+(if([]:List Keyword).isEmpty then 0 else 1)<30))=true:=by rfl)
 (hline:(apos.endLine==cpos.line)=true:=by rfl) (hs:AL (e::es) X.env=(false,eval e X.env)::AL es X.env:=by rfl) (hplain:(backTo cpos (AL es X.env)).any (·.1)=false:=by rfl):
 PE X (.Call (.Attribute o name apos) (e::es) [] cpos) (SY K T r to t):=by
 subst hK;exact KA pa slot hty hm ho ha hbase hfew hline hs hplain
theorem SD{α:Type}:∀(l:List α)(k:Nat)(h:k<l.length),(l[k]::l.eraseIdx k).Perm l
 | [],_,h=>by simp at h
 | a::l,0,_=>FH _
 | a::l,k+1,h=>by have ih:=SD l k (by simpa using h);exact(List.Perm.swap a (l[k]'(by simpa using h)) (l.eraseIdx k)).trans (ih.cons a)
theorem S9{K:Ai}{Q:VK}{j:Nat}{k:Nat}(ea:σ[i]?=some (some (V.ref a)))(ej:σ[j]?=some (some (V.int (k:Int))))(ha:H a=some (.lst xs))(hx:xs.length≤100)
 (q:∀r H',H r=none→Same H H'→H' r=some (.lst (xs.eraseIdx k))→Q (.ref r) H'):
 Ky Mz (Mt (Lo K) (IP i) LC (LR (IP j))) (Mt (Lo K) (IP i) (LR (Ky (Km λi j=>V.int (i+j)) (IP j) (tC (.int 1)))) LC) σ H Q:=by
 refine⟨_,ea,_,ej,_,rfl,a,_,rfl,SqL.of ha,λp1 hp1=>?_⟩;rw[Md rfl];have s1:=Hx hp1 (.lst (xs.take k));have e1:(Hh H p1 (.lst (xs.take k))) p1=some (.lst (xs.take k)):=Hl;generalize Hh H p1 (.lst (xs.take k))=H1 at*;refine⟨_,ea,_,ej,_,_,rfl,rfl,_,rfl,a,_,rfl,SqL.of (s1 _ _ ha),λp2 hp2=>?_⟩;rw[M_ (n:=k+1) (by omega)];have s2:=Hx hp2 (.lst (xs.drop (k+1)));have e2:(Hh H1 p2 (.lst (xs.drop (k+1)))) p2=some (.lst (xs.drop (k+1))):=Hl;generalize Hh H1 p2 (.lst (xs.drop (k+1)))=H2 at*;refine⟨p1,p2,_,_,rfl,rfl,s2 _ _ e1,e2,(by rw[A5,BB];exact Kq (by omega)),λp3 hp3=>?_⟩;refine q p3 _ ((s1.trans s2).free hp3) (s1.trans (s2.trans (Hx hp3 _))) ?_;rw[Hl,Ed]
theorem XJ{α β:Type}{f:α→β}{ys zs:List β}(h:ys.Perm zs):∀l:List α,zs=l.map f→∃l':List α,l'.Perm l∧l'.map f=ys:=by
 induction h with
 | nil=>intro l e;exact⟨l,FH _,e.symm⟩
 | cons x _ ih=>
  intro l e;cases l with
  | nil=>cases e
  | cons a l=>
   rw[Az] at e;injection e with e1 e2
   obtain⟨l',p,e3⟩:=ih l e2;exact⟨a::l',p.cons a,by rw[Az,e3,e1]⟩
 | swap x y r=>
  intro l e
  match l,e with
  | a::b::l,e=>
   rw[Az,Az] at e;injection e with e1 e2
   injection e2 with e2 e3
   exact⟨b::a::l,List.Perm.swap _ _ _,by rw[Az,Az,e1,e2,e3]⟩
 | trans _ _ ih1 ih2=> intro l e;obtain⟨l1,p1,e1⟩:=ih2 l e;obtain⟨l2,p2,e2⟩:=ih1 l1 e1.symm;exact⟨l2,p2.trans p1,e2⟩
theorem OI{α β:Type}(f:α→β):∀(l:List α)(k:Nat),(l.map f).eraseIdx k=(l.eraseIdx k).map f
 | [],_=>rfl
 | _::_,0=>rfl
 | a::l,k+1=>congrArg (f a:: ·) (OI f l k)
theorem Vi{own:List Str}{us ws:List (Addr×List WP)}{qs:List (List WP)}(o3:own.length≤3)(pu:us.Perm ws)(fl:(ws.map (·.2)).filter (Ji own)=qs)(ok:∀w∈qs,BoxOk own w):
 Iq own (us.map (·.2))=some ((IG own λP=>qs.any λp=>Ho p P:Nat):Int):=by
 have p:((us.map (·.2)).filter (Ji own)).Perm qs:=fl ▸ (pu.map _).filter _;have e:((us.map (·.2)).filter (Ji own)).map (IL own)=(us.map (·.2)).filter (Ji own):=by
  have:∀l:List (List WP),(∀w∈l,BoxOk own w)→l.map (IL own)=l:=λl=>by
   induction l with
   | nil=>intro _;rfl
   | cons a l ih=>intro h;rw[Az,UF (h a AD),ih λw hw=>h w (AE _ hw)]
  exact this _ λw hw=>ok w (p.subset hw)
 have e2:Iq own (us.map (·.2))=Il (((us.map (·.2)).filter (Ji own)).map (IL own)):=rfl;rw[e2,e,Vh o3 λw hw=>ok w (p.subset hw)];congr 2;refine Sy λP _=>?_;rw[Bq,BC,BC];exact⟨λ⟨x,h1,h2⟩=>⟨x,p.subset h1,h2⟩,λ⟨x,h1,h2⟩=>⟨x,p.symm.subset h1,h2⟩⟩
theorem Xe{own:List Str}{us:List (List WP)}(tO:ToldF own)(h:∀w∈us,BoxOk own w):∃fo,ToldF fo∧FieldsOf us fo∧(fo=own∨us=[]∧fo=[]):=by
 cases us with
 | nil=>exact⟨[],⟨by simp,by simp,List.Pairwise.nil⟩,⟨List.Pairwise.nil,λf=>by simp⟩,.inr ⟨rfl,rfl⟩⟩
 | cons w us=> refine⟨own,tO,⟨tO.asc,λf=>⟨λhf=>⟨w,AD,by rw[(h w AD).fl];exact hf⟩,λ⟨x,hx,hf⟩=>by rw[←(h x hx).fl];exact hf⟩⟩,.inl rfl⟩
def Jx(fs own:List Str):List WP:=(fs.filter λf=>!decide (f∈own)).map λf=>(f,none,none)
theorem Xn(fs own:List Str):(Jx fs own).map (·.1)=fs.filter λf=>!decide (f∈own):=by unfold Jx;rw[BP];exact Ez _
theorem Us{fs own:List Str}(t:ToldF fs):WOk (Jx fs own):=by
 refine⟨?_,λp hp=>?_,?_⟩
 · unfold Jx;rw[Ab];have:=C2 (λf=>!decide (f∈own)) fs;have:=t.len;omega
 · obtain⟨f,hf,rfl⟩:=AM.mp hp;exact⟨t.ok f (Dp.mp hf).1,rfl⟩
 · rw[Xn];exact t.asc.sublist List.filter_sublist
theorem Ur(fs own:List Str):Lr fs (Jx fs own):=λp hp=>by obtain⟨f,hf,rfl⟩:=AM.mp hp;exact(Dp.mp hf).1
theorem Wv(fs own:List Str):Iv Kn 1 bM (Jx fs own):=λp hp=>by obtain⟨f,hf,rfl⟩:=AM.mp hp;refine⟨λl e=>?_,λu e=>?_⟩<;>cases e
theorem Ww{fs own:List Str}(t:ToldF fs)(to:ToldF own)(h:own.length<fs.length):Ji own (Jx fs own)=false:=by
 cases c:Ji own (Jx fs own) with
 | false=>rfl
 | true=>
  exfalso;have s:=Ld own fs t.asc to.asc λf hf=>by
   by_cases m:f∈own
   · exact m
   · have:=AI.mp c (f,none,none) (List.mem_map.mpr ⟨f,Dp.mpr ⟨hf,by simp[m]⟩,rfl⟩);simpa using this
  have:=s.length_le;omega
end L2
set_option maxHeartbeats 4000000
namespace K16
open PySem PySem.Spec PyProof.Rows L2
theorem HR{α:Type}{l:List (Addr×α)}{x:V}(h:(l.map λy=>V.ref y.1)[i]?=some x):∃y,l[i]?=some y∧x=V.ref y.1:=by
 rw[Af] at h;cases e:l[i]? with
 | none=>rw[e] at h;cases h
 | some y=>rw[e] at h;exact⟨y,rfl,(AB h).symm⟩
def top(i:Nat):Stmt:=PySem.Challenge.pw_newsways_k16_whole_counted_cut_up.main.body.getD i (.Pass ⟨0,0,0,0⟩)
abbrev O6:Stmt:=top 7
abbrev O0:Stmt:=top 8
abbrev OC:Stmt:=top 9
abbrev OL:Stmt:=top 10
abbrev OZ:Stmt:=top 11
abbrev Ms:Stmt:=top 12
abbrev Ni:Stmt:=top 15
abbrev OX:Stmt:=top 16
abbrev N3:Stmt:=top 17
abbrev Nn:Stmt:=top 18
abbrev N4:Stmt:=top 19
abbrev OW:Stmt:=top 20
abbrev NA:Stmt:=top 21
abbrev Ny:Stmt:=top 22
abbrev OY:Stmt:=top 33
abbrev Pa:Stmt:=top 32
abbrev N2:Stmt:=top 31
abbrev N7:Stmt:=top 30
abbrev OQ:Stmt:=top 27
abbrev O_:Stmt:=top 37
abbrev Nx:Stmt:=top 35
abbrev N8:Stmt:=top 36
abbrev Mq:Stmt:=top 34
abbrev Mr:Stmt:=top 29
abbrev OV:Stmt:=top 28
abbrev NB:Stmt:=top 26
abbrev Mn:Stmt:=top 39
abbrev O9:Stmt:=top 40
abbrev Nj:Stmt:=top 41
abbrev ON:Stmt:=top 42
abbrev O7:Stmt:=top 43
abbrev OR:Stmt:=top 48
abbrev OD:Stmt:=top 44
abbrev OE:Stmt:=top 45
abbrev OM:Stmt:=top 46
abbrev N5:Stmt:=top 47
abbrev O8:Stmt:=top 49
abbrev OS:Stmt:=top 50
abbrev Kp:Stmt:=top 51
def NC(m:Nat):Sp:=λvs H Q _=>∃(v v':V)(d:DY),vs=[v,v']∧m≤9∧K6 H d v∧K6 H d v'∧NR d≤m∧∀H',Same H H'→Q (.bl true) H'
section
variable{mg:Str→Option Value}{base:Heap}
theorem HY{N P:List Str}{sc:Scope}(h1:sc.kind= .function:=by rfl)(h2:sc.isCoroutine=false:=by rfl)(h3:sc.isGenerator=false:=by rfl)(h4:N.Nodup:=by decide+kernel)(h5:N.take P.length=P:=by rfl)(h6:∀x∈P,sc.names.lookup x=some .local∨sc.names.lookup x=some .cell:=by decide+kernel)(h7:∀y∈sc.names,y.2≠ .free:=by decide+kernel):FnScope N P sc:=⟨h1,h2,h3,h4,h5,h6,h7⟩
theorem Xp:FnScope ["thing"] ["thing"] (Hy O6):=HY
theorem Wy:FnScope ["thing"] ["thing"] (Hy O0):=HY
theorem Ge:FnScope ["thing","low","high"] ["thing"] (Hy OC):=HY
theorem Yq:FnScope ["thing"] ["thing"] (Hy OL):=HY
theorem Gf:FnScope ["span","low","high"] ["span"] (Hy OZ):=HY
theorem Gg:FnScope ["one","other","low","high"] ["one","other"] (Hy Ms):=HY
theorem Xo:FnScope ["thing"] ["thing"] (Hy Ni):=HY
theorem Gh:FnScope ["thing","field","low","high"] ["thing"] (Hy OX):=HY
theorem Y3:FnScope ["parts"] ["parts"] (Hy N3):=HY
theorem WU:FnScope ["thing"] ["thing"] (Hy Nn):=HY
theorem Yp:FnScope ["thing"] ["thing"] (Hy N4):=HY
theorem Y1:FnScope ["thing"] ["thing"] (Hy OW):=HY
theorem Yx:FnScope ["wish"] ["wish"] (Hy NA):=HY
theorem Gi:FnScope ["one","other","met","field","low","high","shared"] ["one","other"] (Hy Ny):=HY
theorem Gj:FnScope ["span","inner","low","high","inner_low","inner_high","below","above"] ["span","inner"] (Hy OY):=HY
theorem Gk:FnScope ["wish","other","met","parts","at","field","low","high","part_low","part_high"] ["wish","other"] (Hy Pa):=HY
theorem Gm:FnScope ["wish","others","parts","other"] ["wish","others"] (Hy N2):=HY
theorem Yg:FnScope ["wishes"] ["wishes"] (Hy N7):=HY
theorem Yf:FnScope ["wishes","fields"] ["wishes","fields"] (Hy OQ):=HY
theorem Gn:FnScope ["wish","product","field","low","high","many"] ["wish"] (Hy O_):=HY
theorem Yo:FnScope ["wish","fields"] ["wish","fields"] (Hy Nx):=HY
theorem Go:FnScope ["wish","fields","spans"] ["wish","fields"] (Hy N8):=HY
theorem Gp:FnScope ["wishes","fields","filled","numbers","at","wish"] ["wishes","fields"] (Hy Mq):=HY
theorem YA:FnScope ["thing"] ["thing"] (Hy Mr):=HY
theorem Y0:FnScope ["thing"] ["thing"] (Hy OV):=HY
theorem Gq:FnScope ["wishes","fields","own_fields"] ["wishes","fields"] (Hy NB):=HY
theorem Gr:FnScope ["script","great","small","seed","number"] ["script"] (Hy Mn):=HY
theorem Gs:FnScope ["well","many","number","cell"] ["well","many"] (Hy O9):=HY
theorem Gu:FnScope ["well","most","letters"] ["well","most"] (Hy Nj):=HY
theorem Gv:FnScope ["well","many","letters","found","k","pick","first","letter","at","word"] ["well","many"] (Hy ON):=HY
theorem Gw:FnScope ["well","pick","sign","number"] ["well"] (Hy O7):=HY
theorem Yh:FnScope ["thing"] ["thing"] (Hy OR):=HY
theorem Gx:FnScope ["well","names","ends","parts","field","pick","low","wide","k","high"] ["well","names","ends"] (Hy OD):=HY
theorem Gy:FnScope ["well","wish","at","field","low","high","number","far","one"] ["well","wish"] (Hy OE):=HY
theorem Gz:FnScope ["well","wish","many","found","k","at"] ["well","wish","many"] (Hy OM):=HY
theorem G0:FnScope ["well","row","left"] ["well","row"] (Hy N5):=HY
theorem G1:FnScope ["wish","found","field","low","high"] ["wish"] (Hy O8):=HY
theorem G2:FnScope ["well","part","wish","at","pick","field","low","high"] ["well","part","wish"] (Hy OS):=HY
theorem G3:FnScope ["script","well","pick","cuts","names","own","at","wish","parts","due","told","wishes","handed","found"] ["script"] (Hy Kp):=HY
section
variable(P:Bt)(w:World)(K:Ai)(mg:Str→Option Value)(base:Heap)
abbrev Γ0:=H_ P w K mg base 1 "is_whole" ["thing"] (MY K)
abbrev Γ1:=H_ P w K mg base 2 "is_end" ["thing"] (Qb K)
abbrev Γ2:=H_ P w K mg base 3 "is_span" ["thing"] (R1 K)
abbrev Γ3:=H_ P w K mg base 4 "check_span" ["thing"] (QL K)
abbrev Γ6:=H_ P w K mg base 1 "is_field" ["thing"] (QN)
abbrev Γ8:=H_ P w K mg base 1 "fields_ascend" ["parts"] (Rz)
abbrev Γ7:=H_ P w K mg base 4 "is_wish_part" ["thing"] (Sq)
abbrev Γ9:=H_ P w K mg base 5 "is_wish" ["thing"] (R3)
abbrev Γ10:=H_ P w K mg base 6 "are_wishes" ["thing"] (QK)
abbrev Γ12:=H_ P w K mg base 1 "spans_by_field" ["wish"] (So)
abbrev Γ5:=H_ P w K mg base 1 "span_shared" ["one","other"] (R5)
abbrev Γ13:=H_ P w K mg base 2 "wish_shared" ["one","other"] (Qv)
abbrev Γ14:=H_ P w K mg base 1 "spans_beside" ["span","inner"] (SS)
abbrev Γ15:=H_ P w K mg base 3 "parts_beside_one" ["wish","other"] (Sn)
abbrev Γ4:=H_ P w K mg base 5 "how_many_in" ["span"] (Qd)
abbrev Γ21:=H_ P w K mg base 2 "filled_up" ["wish","fields"] (Qu)
abbrev Γ20:=H_ P w K mg base 1 "has_no_more" ["wish","fields"] (R4)
abbrev Γ19:=H_ P w K mg base 6 "how_many_of" ["wish"] (QO)
abbrev Γ16:=H_ P w K mg base 4 "parts_beside" ["wish","others"] (QR)
abbrev Γ23:=H_ P w K mg base 2 "is_list_of_fields" ["thing"] (QP)
abbrev Γ11:=H_ P w K mg base 7 "check_wishes" ["thing"] (R0)
abbrev Γ17:=H_ P w K mg base 1 "fields_of" ["wishes"] (SH)
abbrev Γ18:=H_ P w K mg base 1 "check_few" ["wishes","fields"] (Qc)
abbrev Γ22:=H_ P w K mg base 7 "how_many_wanted" ["wishes","fields"] (R7)
abbrev Γ24:=H_ P w K mg base 3 "check_fields" ["thing"] (Qt)
abbrev Γ27:=H_ P w K mg base 1 "_law_take" ["well","many"] (Qy)
abbrev Γ28:=H_ P w K mg base 2 "_law_name" ["well","most"] (Qw)
abbrev Γ30:=H_ P w K mg base 2 "_law_base" ["well"] (Qs)
abbrev Γ33:=H_ P w K mg base 3 "_law_cut" ["well","wish"] (Qj)
abbrev Γ26:=H_ P w K mg base 1 "_law_well" ["script"] (Qz K)
abbrev Γ29:=H_ P w K mg base 3 "_law_fields" ["well","many"] (RK)
abbrev Γ32:=H_ P w K mg base 3 "_law_box" ["well","names","ends"] (Qi)
abbrev Γ34:=H_ P w K mg base 4 "_law_cut_up" ["well","wish","many"] (QM)
abbrev Γ36:=H_ P w K mg base 1 "_law_size" ["wish"] (Qx)
abbrev Γ35:=H_ P w K mg base 2 "_law_turned" ["well","row"] (R6)
abbrev Γ25:=MO P w K mg base 8 "how_many_pieces" "wishes" "fields" (QQ)
abbrev Γ31:=H_ P w K mg base 1 "_law_whole" ["thing"] (MY K)
abbrev Γ37:=H_ P w K mg base 2 "_law_wider" ["well","part","wish"] (QS)
end
theorem zq0:0≤Av:=by decide
theorem JU:1≤Av:=by decide
theorem PN:4≤Av:=by decide
theorem zq5:5≤Av:=by decide
theorem zq6:6≤Av:=by decide
theorem zq8:8≤Av:=by decide
theorem MD:BI (["end"]:List Str):=by decide+kernel
theorem Pu:BI (["sign"]:List Str):=by decide+kernel
theorem K4:BI (["ahead","behind"]:List Str):=by decide+kernel
theorem M5:BI (["part"]:List Str):=by decide+kernel
theorem Pt:BI (["wish"]:List Str):=by decide+kernel
theorem Lq:BI (["field","low","high"]:List Str):=by decide+kernel
theorem Ps:BI (["field","met"]:List Str):=by decide+kernel
theorem M4:BI (["part","smaller","other"]:List Str):=by decide+kernel
theorem K3:BI (["wish","field","low","high"]:List Str):=by decide+kernel
theorem Lp:BI (["field","low","high","fields"]:List Str):=by decide+kernel
theorem MC:BI (["field","spans"]:List Str):=by decide+kernel
theorem MB:BI (["wish","fields"]:List Str):=by decide+kernel
theorem MA:BI (["field"]:List Str):=by decide+kernel
theorem KI:BI (["cell"]:List Str):=by decide+kernel
theorem M9:BI (["k","well","letters"]:List Str):=by decide+kernel
theorem M8:BI (["k","well","left"]:List Str):=by decide+kernel
theorem M7:BI (["one","well","wish"]:List Str):=by decide+kernel
theorem M6:BI (["field","own"]:List Str):=by decide+kernel
theorem Jp:2≤Av:=by decide
theorem MP:3≤Av:=by decide
variable{f:Addr}{fd:BA}(B:Bl mg){tML':Tok}(qML':mg "MOST_LETTERS"=some (.int 8 tML')){tMW':Tok}(qMW':mg "MOST_WISHES"=some (.int 7 tMW')){tMF':Tok}(qMF':mg "MOST_FIELDS"=some (.int 3 tMF'))
include B qML' qMW' qMF'
theorem XC(F:Fun K "is_whole" "is_whole" O6 f fd)  :FnOk P w K mg base HJ 1 f fd ["thing"] (MY K):=by
 refine F.ok Xp (λvs H Q E h=>?_) (λcdv A outer s H vs Q E hr h=>?_)
 · obtain⟨v,t,rfl,hty,q⟩:=h;rfl
 obtain⟨v,t,rfl,hty,q⟩:=h;refine⟨_,(Hw (HF (KY (HK (Kj (n:="")) rfl B.isinstance_ Kk (Hf (pv 0) (Hf (Ke (v:= .ty "int") rfl B.int_ Q2 rfl) Hg))) (KC (Qo (HK (Kj (n:="")) rfl B.isinstance_ Kk (Hf (pv 0) (Hf (Ke (v:= .ty "bool") rfl B.bool_ QE rfl) Hg)))))))),?_⟩;cases hty
 all_goals first
  | exact⟨_,rfl,_,"int","int",true,rfl,.int _,rfl,_,rfl,Hr ⟨_,rfl,_,"int","bool",false,rfl,.int _,rfl,_,rfl,q⟩⟩
  | exact⟨_,rfl,_,"bool","int",true,rfl,.bl _,rfl,_,rfl,Hr ⟨_,rfl,_,"bool","bool",true,rfl,.bl _,rfl,_,rfl,q⟩⟩
  | exact⟨_,rfl,_,_,"int",false,rfl,(by first | exact .non | exact .str _ | exact .flt _ | (exact .lst (by assumption)) | (exact .frz (by assumption)) | (exact .tup (by assumption)) | (exact .dK (by assumption)) | (exact .dT (by assumption))),rfl,_,rfl,Hs q⟩
theorem Wp(F:Fun K "is_end" "is_end" O0 f fd)(G4:Γ0 P w K mg base):FnOk P w K mg base HJ 2 f fd ["thing"] (Qb K):=by
 refine F.ok Wy (λvs H Q E h=>?_) (λcdv A outer s H vs Q E hr h=>?_)
 · obtain⟨v,t,rfl,hty,q⟩:=h;rfl
 obtain⟨v,t,rfl,hty,q⟩:=h;refine⟨_,(Hw (HF (NJ (NU (J9 (pv 0))) (KC (Hz G4 (hr.mono (by decide)) rfl (Hf (pv 0) Hg)))))),?_⟩;refine⟨_,rfl,_,rfl,?_⟩;cases hty
 case non=>exact Hr q
 all_goals refine Hs ?_
 case int i=>exact⟨_,rfl,_,_,rfl,.int _,q⟩
 all_goals exact⟨_,rfl,_,_,rfl,(by first | exact .bl _ | exact .str _ | exact .flt _ | (exact .lst (by assumption)) | (exact .frz (by assumption)) | (exact .tup (by assumption)) | (exact .dK (by assumption)) | (exact .dT (by assumption))),q⟩
theorem WH(F:Fun K "is_span" "is_span" OC f fd)(G5:Γ1 P w K mg base):FnOk P w K mg base HJ 3 f fd ["thing"] (R1 K):=by
 refine F.ok Ge (λvs H Q E h=>?_) (λcdv A outer s H vs Q E hr h=>?_)
 · obtain⟨v,t,rfl,hty,hp,q⟩:=h;rfl
 obtain⟨v,t,rfl,hty,hp,q⟩:=h;refine⟨_,(Hq (Ia (PW.pt (KR (JH (JD (HK (Kj (n:="")) rfl B.isinstance_ Kk (Hf (pv 0) (Hf (Ke (v:= .ty "tuple") rfl B.tuple_ Lb rfl) Hg))))) (K_ (Io MQ (HK IM rfl B.len_ IC (Hf (pv 0) Hg)) Hk (Ih _))))) (Hw (HF K9)) Ig)
  (Hq (JM (pv 0) (Jq rfl (HG (HA (i:=1) Ge.nd rfl (Or.inl rfl)) (HG (HA (i:=2) Ge.nd rfl (Or.inl rfl)) IW))))
  (Hq (Ia (PW.pt (KR (JH (JD (Hz G5 (hr.mono (by decide)) rfl (Hf (pv 1) Hg)))) (K_ (JH (JD (Hz G5 (hr.mono (by decide)) rfl (Hf (pv 2) Hg))))))) (Hw (HF K9)) Ig)
  (Hw (HF (NJ (NU (J9 (pv 1))) (NJ (NU (J9 (pv 2))) (KC (LA NI (pv 1) (pv 2) (Ih _)))))))))),?_⟩
 have q0:JC H v=false→Q (.bl false) H:=λh=>by rw[←h];exact q
 cases hty
 case tup a xs e=>
  refine⟨_,rfl,_,"tuple","tuple",true,rfl,.tup e,rfl,_,rfl,Hs ⟨_,rfl,a,_,rfl,.inr (SqT.of e),rfl,_,rfl,?_⟩⟩;by_cases hl:xs.length=2
  · match xs,hl with
    | [x,y],_=>
     refine Hs ⟨_,rfl,a,_,rfl,SqT.of e,rfl,_,_,rfl,_,_,rfl,rfl,?_⟩;obtain⟨t1,t2,h1,h2⟩:=hp a x y rfl e;have es:JC H (.ref a)=(Jn x && Jn y && Px x y):=by unfold JC;simp only[e]
     rw[es] at q;refine⟨_,rfl,_,_,rfl,h1,_,rfl,?_⟩;cases ex:Jn x with
     | false=> rw[ex] at q;exact Hr q
     | true=>
      rw[ex] at q;refine Hs ⟨_,rfl,_,_,rfl,h2,_,rfl,?_⟩;cases ey:Jn y with
      | false=> rw[ey] at q;exact Hr q
      | true=>
       rw[ey] at q;refine Hs ⟨_,rfl,_,rfl,?_⟩;cases x with
       | non=>exact Hr q
       | int i=>
        refine Hs ⟨_,rfl,_,rfl,?_⟩;cases y with
        | non=>exact Hr q
        | int j=>exact Hs ⟨_,rfl,_,rfl,_,_,rfl,rfl,q⟩
        | _=>exact absurd ey Ax
       | _=>exact absurd ex Ax
  · have es:JC H (.ref a)=false:=by
     unfold JC;simp only[e]
     match xs,hl with
     | [],_=>rfl
     | [_],_=>rfl
     | [_,_],h=>exact absurd rfl h
     | _::_::_::_,_=>rfl
    have ed:(!decide (V.int ((xs.length:Nat):Int)=V.int 2))=true:=by
     have:¬V.int ((xs.length:Nat):Int)=V.int 2:=λz=>by injection z with z;omega
     rw[decide_eq_false this];rfl
    rw[es] at q;show if(!decide (V.int ((xs.length:Nat):Int)=V.int 2))=true then _ else _
    rw[ed];exact Hr q
 case non=>exact⟨_,rfl,_,_,"tuple",false,rfl,.non,rfl,_,rfl,Hr (q0 rfl)⟩
 case bl b=>exact⟨_,rfl,_,_,"tuple",false,rfl,(.bl b),rfl,_,rfl,Hr (q0 rfl)⟩
 case int i=>exact⟨_,rfl,_,_,"tuple",false,rfl,(.int i),rfl,_,rfl,Hr (q0 rfl)⟩
 case str x=>exact⟨_,rfl,_,_,"tuple",false,rfl,(.str x),rfl,_,rfl,Hr (q0 rfl)⟩
 case flt x=>exact⟨_,rfl,_,_,"tuple",false,rfl,(.flt x),rfl,_,rfl,Hr (q0 rfl)⟩
 case lst a xs e=>exact⟨_,rfl,_,_,"tuple",false,rfl,(.lst e),rfl,_,rfl,Hr (q0 (by unfold JC;simp only[e]))⟩
 case frz a o xs e=>exact⟨_,rfl,_,_,"tuple",false,rfl,(.frz e),rfl,_,rfl,Hr (q0 (by unfold JC;simp only[e]))⟩
 case dK a kvs e=>exact⟨_,rfl,_,_,"tuple",false,rfl,(.dK e),rfl,_,rfl,Hr (q0 (by unfold JC;simp only[e]))⟩
 case dT a kvs e=>exact⟨_,rfl,_,_,"tuple",false,rfl,(.dT e),rfl,_,rfl,Hr (q0 (by unfold JC;simp only[e]))⟩
theorem XZ(F:Fun K "check_span" "check_span" OL f fd)(G6:Γ2 P w K mg base):FnOk P w K mg base HJ 4 f fd ["thing"] (QL K):=by
 refine F.ok Yq (λvs H Q E h=>?_) (λcdv A outer s H vs Q E hr h=>?_)
 · obtain⟨v,t,rfl,hty,hp,hs,q⟩:=h;rfl
 obtain⟨v,t,rfl,hty,hp,hs,q⟩:=h;refine⟨_,(Hw (Ia (JH (JD (Hz G6 (hr.mono (by decide)) rfl (Hf (pv 0) Hg)))) (Hw Mk) Ig)),?_⟩;refine⟨_,rfl,v,t,rfl,hty,hp,_,rfl,?_⟩;rw[hs];exact Hs q
theorem Yk(F:Fun K "how_many_in" "how_many_in" OZ f fd)(G7:Γ3 P w K mg base):FnOk P w K mg base HJ 5 f fd ["span"] (Qd):=by
 refine F.ok Gf (λvs H Q E h=>?_) (λcdv A outer s H vs Q E hr h=>?_)
 · obtain⟨v,lo,hi,rfl,S1,hl,q⟩:=h;rfl
 obtain⟨v,lo,hi,rfl,S1,hl,q⟩:=h;refine⟨_,(Hq (Kf (Hz G7 (hr.mono (by decide)) rfl (Hf (pv 0) Hg)))
  (Hq (JM (pv 0) (Jq rfl (HG (HA (i:=1) Gf.nd rfl (Or.inl rfl)) (HG (HA (i:=2) Gf.nd rfl (Or.inl rfl)) IW))))
  (Hq (Ia (PW.pt (KR (Jj (J9 (pv 1))) (K_ (Jj (J9 (pv 2)))))) (Hw (HF IY)) Ig)
  (Hw (HF (Hu Ip (Hu Ka (pv 2) (pv 1)) Hk)))))),?_⟩
 refine⟨_,rfl,v,"tuple",rfl,S1.ty.1,S1.ty.2,(Sl S1).trans hl,?_⟩;obtain⟨a,rfl,e1⟩:=S1;refine⟨_,rfl,a,_,rfl,SqT.of e1,rfl,_,_,rfl,_,_,rfl,rfl,?_⟩;cases lo with
 | none=>exact⟨_,rfl,_,rfl,Hr q⟩
 | some l=>
  cases hi with
  | none=>exact⟨_,rfl,_,rfl,Hs ⟨_,rfl,_,rfl,Hr q⟩⟩
  | some h=>exact⟨_,rfl,_,rfl,Hs ⟨_,rfl,_,rfl,Hs ⟨_,rfl,_,rfl,_,_,rfl,rfl,_,_,rfl,rfl,q⟩⟩⟩
theorem Ym(F:Fun K "span_shared" "span_shared" Ms f fd)  :FnOk P w K mg base HJ 1 f fd ["one","other"] (R5):=by
 refine F.ok Gg (λvs H Q E h=>?_) (λcdv A outer s H vs Q E hr h=>?_)
 · obtain⟨v,w,lo,hi,lo2,hi2,rfl,S1,S2,q⟩:=h;rfl
 obtain⟨v,w,lo,hi,lo2,hi2,rfl,S1,S2,q⟩:=h;refine⟨_,(Hq (HB (i:=2) Gg.nd rfl (Or.inl rfl) (RZ (VM rfl) rfl B.max_ TX (Hf (Jw (N':=["end"]) (js:=[none]) rfl (IH (N:=["one","other","low","high"]) (outer:=Hy Ms) (by decide+kernel)) (Ku (Ir (Hf (HW J0 (pv 0) Hk (λ_ _=>rfl)) (Hf (HW J0 (pv 1) Hk (λ_ _=>rfl)) Hg)))) (λ_ _ _ _ _=>(HA (i:=0) MD rfl (Or.inl rfl))) (λ_ _ _ _ _=>LF (Jj (L9 (pv 0)))) (λ_ _ _ _ _=>(pv 0))) Hg) (Q_ IY Qp)))
  (Hq (HB (i:=3) Gg.nd rfl (Or.inl rfl) (RZ (VO rfl) rfl B.min_ Q3 (Hf (Jw (N':=["end"]) (js:=[none]) rfl (IH (N:=["one","other","low","high"]) (outer:=Hy Ms) (by decide+kernel)) (Ku (Ir (Hf (HW J0 (pv 0) Hk (λ_ _=>rfl)) (Hf (HW J0 (pv 1) Hk (λ_ _=>rfl)) Hg)))) (λ_ _ _ _ _=>(HA (i:=0) MD rfl (Or.inl rfl))) (λ_ _ _ _ _=>LF (Jj (L9 (pv 0)))) (λ_ _ _ _ _=>(pv 0))) Hg) (Q_ IY Qp)))
  (Hq (Ia (PW.pt (KZ (Jj (L9 (pv 2))) (KZ (Jj (L9 (pv 3))) (LB (Io L1 (pv 2) (pv 3) (Ih _)))))) (Hw (HF IY)) Ig)
  (Hw (HF (Ir (Hf (pv 2) (Hf (pv 3) Hg)))))))),?_⟩
 obtain⟨a,rfl,e1⟩:=S1;obtain⟨c,rfl,e2⟩:=S2;refine⟨_,rfl,a,_,0,_,rfl,rfl,SqT.of e1,rfl,_,rfl,c,_,0,_,rfl,rfl,SqT.of e2,rfl,Jp,λt ht=>⟨t,rfl,⟨_,SqT.of Hl⟩,λp hp=>?_⟩⟩;refine Re (os:=[lo,lo2]) (cap:=[]) EJ (by simp) (SqT.of Hl) hp ?_ ?_ ?_ ?_ ?_
 · rfl
 · exact λs=>s.seqT (SqT.of Hl)
 · exact λo H' R s r=>⟨_,rfl,_,rfl,by rw[Sf];exact r⟩
 · exact λo H' R s r=>⟨_,rfl,r⟩
 intro H1 s1 h1;obtain⟨ns,n1,n2⟩:=UU lo lo2;rw[n1] at h1;refine⟨p,ns,.non,rfl,rfl,SqL.of h1,?_⟩;rw[n2];have s2:Same H H1:=(Hx ht _).trans s1;clear n1 n2 h1 hp s1 ht;refine⟨_,rfl,a,_,1,_,rfl,rfl,SqT.of (s2 _ _ e1),rfl,_,rfl,c,_,1,_,rfl,rfl,SqT.of (s2 _ _ e2),rfl,Jp,λt ht=>⟨t,rfl,⟨_,SqT.of Hl⟩,λp hp=>?_⟩⟩;refine Re (os:=[hi,hi2]) (cap:=[]) EJ (by simp) (SqT.of Hl) hp ?_ ?_ ?_ ?_ ?_
 · rfl
 · exact λs=>s.seqT (SqT.of Hl)
 · exact λo H' R s r=>⟨_,rfl,_,rfl,by rw[Sf];exact r⟩
 · exact λo H' R s r=>⟨_,rfl,r⟩
 intro H3 s3 h1;obtain⟨ns,n1,n2⟩:=UV hi hi2;rw[n1] at h1;refine⟨p,ns,.non,rfl,rfl,SqL.of h1,?_⟩;rw[n2];have s4:Same H H3:=s2.trans ((Hx ht _).trans s3);clear n1 n2 h1 hp s3 ht;have fin:Ic (IE lo lo2) (IF hi hi2)=false→∀r,H3 r=none→Q (.ref r) (Hh H3 r (.tup [eV (IE lo lo2),eV (IF hi hi2)])):=λh r hr=>by refine q _ _ (s4.trans (Hx hr _)) ?_;unfold MR;rw[h];exact Hs ⟨r,rfl,Hl⟩
 refine⟨_,rfl,_,rfl,?_⟩;cases e5:IE lo lo2 with
 | none=> rw[e5] at fin;exact Hs ⟨_,rfl,_,rfl,Jp,fin rfl⟩
 | some x=>
  refine Hr ⟨_,rfl,_,rfl,?_⟩;cases e6:IF hi hi2 with
  | none=> rw[e5,e6] at fin;exact Hs ⟨_,rfl,_,rfl,Jp,fin rfl⟩
  | some y=> refine Hr ⟨_,rfl,_,rfl,_,_,rfl,rfl,_,rfl,?_⟩;rw[e5,e6] at fin;refine HI (λh=>q _ _ s4 ?_) (λh=>⟨_,rfl,_,rfl,Jp,fin (Db.mpr h)⟩);unfold MR;rw[e5,e6];exact(if_pos h).symm ▸ rfl
theorem XB(F:Fun K "is_field" "is_field" Ni f fd)  :FnOk P w K mg base HJ 1 f fd ["thing"] (QN):=by
 refine F.ok Xo (λvs H Q E h=>?_) (λcdv A outer s H vs Q E hr h=>?_)
 · obtain⟨x,rfl,F1,q⟩:=h;rfl
 obtain⟨x,rfl,F1,q⟩:=h;refine⟨_,(Hq (Ia (PW.pt (KR (JH (JD (HK (Kj (n:="")) rfl B.isinstance_ Kk (Hf (pv 0) (Hf (Ke (v:= .ty "str") rfl B.str_ TY rfl) Hg))))) (K_ (JH (Vp NI NI Hk (HK SI rfl B.len_ IC (Hf (pv 0) Hg)) (MZ (v:= .int 8) rfl qML' ⟨_,rfl⟩)))))) (Hw (HF K9)) Ig)
  (Hw (HF (HK (Lc rfl) rfl B.all_ KW (Hf (Jw (N':=["sign"]) (js:=[none]) rfl (IH (N:=["thing"]) (outer:=Hy Ni) (by decide+kernel)) (T0 (pv 0)) (λ_ _ _ _ _=>(HA (i:=0) Pu rfl (Or.inl rfl))) (λ_ _ _ _ _=>Jg) (λ_ _ _ _ _=>(Vl RX RX LX (pv 0) LX))) Hg))))),?_⟩
 have l1:(1:Int)≤(x.length:Int):=by have:=F1.one;omega
 have l8:(x.length:Int)≤8:=by have:=F1.eight;omega
 refine⟨_,rfl,_,"str","str",true,rfl,.str x,rfl,_,rfl,Hs ⟨_,rfl,x,rfl,Kq (by have:=F1.eight;omega),_,_,rfl,rfl,_,rfl,?_⟩⟩;rw[decide_eq_true l1];refine Hr ⟨_,_,rfl,rfl,_,rfl,?_⟩;rw[decide_eq_true l8];refine Hs ⟨_,rfl,x,rfl,λp hp=>?_⟩;have s0:=Hx hp (.lst []);have sl:(L2.signs x).length=x.length:=by unfold L2.signs;rw[Ab,AJ];rfl
 refine Tp (xs:=L2.signs x) (λi σ' ys H'=>(∃v,σ'=[v])∧Same H H'∧H' p=some (.lst ys)∧ys=BF i (V.bl true)) ⟨⟨none,rfl⟩,s0,Hl,rfl⟩ ?_ ?_ ?_
 · rintro i σ' ys H' hi ⟨_,_,h1,h2⟩;refine⟨h1,?_⟩;rw[h2,CW];have:=F1.eight;exact IB (by omega)
 · rintro i y σ' ys H' N hy ⟨⟨v,rfl⟩,s,h1,h2⟩ hN;unfold L2.signs at hy;rw[Af] at hy;cases hc:x.cps.toList[i]? with
   | none=>rw[hc] at hy;cases hy
   | some c=>
    rw[hc] at hy;obtain rfl:V.str ⟨#[c]⟩=y:=AB hy;have ok:=F1.all c (Ak hc);refine⟨_,rfl,_,_,rfl,rfl,_,rfl,?_⟩;rw[P3 ok];refine Hr ⟨_,_,rfl,rfl,?_⟩;rw[Pw ok];refine⟨h1,hN _ _ _ ⟨⟨_,rfl⟩,?_,Hl,by rw[h2];exact Dy.symm⟩⟩;intro b o q';have:b≠p:=λz=>by rw[z,hp] at q';cases q'
    rw[HC this];exact s b o q'
 · rintro σ' ys H' ⟨_,s,h1,h2⟩;refine⟨p,BF (L2.signs x).length true,rfl,SqL.of (by rw[h1,h2,DK]),?_⟩;have:(BF (L2.signs x).length true).all id=true:=by simp
   rw[this];exact q H' s
theorem Y7(F:Fun K "is_wish_part" "is_wish_part" OX f fd)(G8:Γ6 P w K mg base)(G6:Γ2 P w K mg base):FnOk P w K mg base HJ 4 f fd ["thing"] (Sq):=by
 refine F.ok Gh (λvs H Q E h=>?_) (λcdv A outer s H vs Q E hr h=>?_)
 · obtain⟨p,f,lo,hi,rfl,hp,F1,hle,q⟩:=h;rfl
 obtain⟨p,f,lo,hi,rfl,hp,F1,hle,q⟩:=h;refine⟨_,(Hq (Ia (PW.pt (KR (JH (JD (HK (Kj (n:="")) rfl B.isinstance_ Kk (Hf (pv 0) (Hf (Ke (v:= .ty "tuple") rfl B.tuple_ Lb rfl) Hg))))) (K_ (Io MQ (HK IM rfl B.len_ IC (Hf (pv 0) Hg)) Hk (Ih _))))) (Hw (HF K9)) Ig)
  (Hq (JM (pv 0) (Jq rfl (HG (HA (i:=1) Gh.nd rfl (Or.inl rfl)) (HG (HA (i:=2) Gh.nd rfl (Or.inl rfl)) (HG (HA (i:=3) Gh.nd rfl (Or.inl rfl)) IW)))))
  (Hw (HF (KY (Hz G8 (hr.mono (by decide)) rfl (Hf (pv 1) Hg)) (KC (Hz G6 (hr.mono (by decide)) rfl (Hf (Ir (Hf (pv 2) (Hf (pv 3) Hg))) Hg)))))))),?_⟩
 refine⟨_,rfl,_,"tuple","tuple",true,rfl,.tup hp,rfl,_,rfl,Hs ⟨_,rfl,p,_,rfl,.inr (SqT.of hp),rfl,_,rfl,?_⟩⟩;refine Hs ⟨_,rfl,p,_,rfl,SqT.of hp,rfl,_,_,rfl,_,_,rfl,_,_,rfl,rfl,?_⟩;refine⟨_,rfl,f,rfl,F1,λH1 s1=>⟨_,rfl,Hr ⟨_,rfl,_,rfl,Jp,λt ht=>?_⟩⟩⟩;have S:SpanAt (Hh H1 t (.tup [eV lo,eV hi])) (.ref t) lo hi:=⟨t,rfl,Hl⟩;refine⟨.ref t,"tuple",rfl,S.ty.1,S.ty.2,?_⟩;rw[Sl S,hle];exact q _ (s1.trans (Hx ht _))
theorem Y2(F:Fun K "fields_ascend" "fields_ascend" N3 f fd)  :FnOk P w K mg base HJ 1 f fd ["parts"] (Rz):=by
 refine F.ok Y3 (λvs H Q E h=>?_) (λcdv A outer s H vs Q E hr h=>?_)
 · obtain⟨a,ps,rfl,ha,hl,hp,hlt,q⟩:=h;rfl
 obtain⟨a,ps,rfl,ha,hl,hp,hlt,q⟩:=h;refine⟨_,(Hw (HF (HK (Lc rfl) rfl B.all_ KW (Hf (Jw (N':=["ahead","behind"]) (js:=[none,none]) rfl (IH (N:=["parts"]) (outer:=Hy N3) (by decide+kernel)) (UL rfl B.zip_ (Hf (pv 0) (Hf (Iz QJ (pv 0) (IA Hk) I0) Hg))) (λ_ _ _ _ _=>(Mb K rfl (n:=2) rfl (HG (HA (i:=0) K4 rfl (Or.inl rfl)) (HG (HA (i:=1) K4 rfl (Or.inl rfl)) IW)))) (λ_ _ _ _ _=>Jg) (λ_ _ _ _ _=>(LA RY (HW (MX K rfl) (pv 0) Hk (λ_ _=>rfl)) (HW (MX K rfl) (pv 1) Hk (λ_ _=>rfl)) (Ih _)))) Hg)))),?_⟩;refine⟨_,rfl,_,rfl,_,rfl,?_⟩;dsimp only[LC];refine Ux (SqT.of ha) λp1 H1 s1 q1=>?_;refine⟨a,p1,rfl,⟨_,s1.seqT (SqT.of ha)⟩,⟨_,q1⟩,λp hp'=>?_⟩;have s0:=Hx hp' (.lst []);have ld:((ps.map λp=>V.ref p.1).drop 1).length=ps.length - 1:=by rw[BB,Ab]
 refine Tq (n:=ps.length - 1) (xs:=ps.map λp=>V.ref p.1) (ys:=(ps.map λp=>V.ref p.1).drop 1) (by rw[Ab];omega) (by rw[ld];exact Ag _) (.inr (by rw[ld];exact Ag _))
  (λi σ' ys H'=>(∃v w,σ'=[v,w])∧Same H1 H'∧H' p=some (.lst ys)∧ys=BF i (V.bl true)) ⟨⟨none,none,rfl⟩,s0,Hl,rfl⟩ ?_ ?_ ?_
 · rintro i σ' zs H' hi ⟨_,s,h1,h2⟩;refine⟨(s1.trans s).seqT (SqT.of ha),s.seqT q1,h1,?_⟩;rw[h2,CW];exact IB (by omega)
 · rintro i x y σ' zs H' r N hx hy hr' ⟨⟨v,w',rfl⟩,s,h1,h2⟩ hN;rw[Af] at hx;rw[DI,Af,Fg] at hy;cases e1:ps[i]? with
   | none=>rw[e1] at hx;cases hx
   | some P1=>
    cases e2:ps[i+1]? with
    | none=>rw[e2] at hy;cases hy
    | some P2=>
     rw[e1] at hx;rw[e2] at hy;obtain rfl:V.ref P1.1=x:=AB hx;obtain rfl:V.ref P2.1=y:=AB hy;have s3:=Hx hr' (.tup [V.ref P1.1,V.ref P2.1]);have t3:=(s1.trans s).trans s3;have f1:=t3 _ _ (hp P1 (Ak e1));have f2:=t3 _ _ (hp P2 (Ak e2));refine⟨r,_,rfl,SqT.of Hl,rfl,_,_,rfl,_,_,rfl,rfl,?_⟩;refine⟨_,rfl,P1.1,_,0,_,rfl,rfl,SqT.of f1,PH,_,rfl,P2.1,_,0,_,rfl,rfl,SqT.of f2,PH,_,_,rfl,rfl,?_⟩;rw[decide_eq_true (show P1.2.1.cps.toList<P2.2.1.cps.toList from hlt i P1 P2 e1 e2)];refine⟨s3 _ _ h1,hN _ _ _ ⟨⟨_,_,rfl⟩,?_,Hl,by rw[h2];exact Dy.symm⟩⟩;intro b o q';have:b≠p:=λz=>by rw[z,hp'] at q';cases q'
     rw[HC this];exact s3 _ _ (s b o q')
 · rintro σ' zs H' ⟨_,s,h1,h2⟩;refine⟨p,BF (ps.length - 1) true,rfl,SqL.of (by rw[h1,h2,DK]),?_⟩;have:(BF (ps.length - 1) true).all id=true:=by simp
   rw[this];exact q H' (s1.trans s)
theorem WI(F:Fun K "is_wish" "is_wish" Nn f fd)(G9:Γ8 P w K mg base)(GA:Γ7 P w K mg base):FnOk P w K mg base HJ 5 f fd ["thing"] (R3):=by
 refine F.ok WU (λvs H Q E h=>?_) (λcdv A outer s H vs Q E hr h=>?_)
 · obtain⟨a,w',rfl,hw,wok,q⟩:=h;rfl
 obtain⟨a,w',rfl,hw,wok,q⟩:=h;refine⟨_,(Hq (Ia (JH (JD (HK (Kj (n:="")) rfl B.isinstance_ Kk (Hf (pv 0) (Hf (Ke (v:= .ty "tuple") rfl B.tuple_ Lb rfl) Hg))))) (Hw (HF K9)) Ig)
  (Hw (HF (KY (HK (Lc rfl) rfl B.all_ KW (Hf (Jw (N':=["part"]) (js:=[none]) rfl (IH (N:=["thing"]) (outer:=Hy Nn) (by decide+kernel)) (Ku (pv 0)) (λ_ _ _ _ _=>(HA (i:=0) M5 rfl (Or.inl rfl))) (λ_ _ _ _ _=>Jg) (λ_ _ _ _ _=>(Hz GA (hr.mono (by decide)) rfl (Hf (pv 0) Hg)))) Hg)) (KC (Hz G9 (hr.mono (by decide)) rfl (Hf (pv 0) Hg))))))),?_⟩
 obtain⟨ps,rfl,hA,hP⟩:=hw;have ll:ps.length≤100:=by have:=wok.len;rw[Ab] at this;exact this
 refine⟨_,rfl,_,"tuple","tuple",true,rfl,.tup hA,rfl,_,rfl,Hs ?_⟩;refine⟨_,rfl,a,rfl,⟨_,SqT.of hA⟩,λp hp=>?_⟩;refine NW (xs:=ps.map λp=>V.ref p.1) (λi σ' ys H'=>(∃v,σ'=[v])∧Same H H'∧H' p=some (.lst ys)∧ys=BF i (V.bl true)) ⟨⟨none,rfl⟩,Hx hp _,Hl,rfl⟩ ?_ ?_ ?_
 · rintro i σ' ys H' hi ⟨_,s,h1,h2⟩;refine⟨s.seqT (SqT.of hA),h1,?_⟩;rw[h2,CW];rw[Ab] at hi;exact IB (by omega)
 · rintro i x σ' ys H' N hx ⟨⟨v,rfl⟩,s,h1,h2⟩ hN;obtain⟨P1,e1,rfl⟩:=HR hx;have hm:=Ak e1;obtain⟨o1,o2⟩:=wok.ok P1.2 (AC hm);refine⟨_,rfl,P1.1,P1.2.1,P1.2.2.1,P1.2.2.2,rfl,s _ _ (hP P1 hm),o1,o2,λH2 s2=>?_⟩;refine⟨s2 _ _ h1,hN _ _ _ ⟨⟨_,rfl⟩,JA (s.trans s2) hp,Hl,by rw[h2];exact Dy.symm⟩⟩
 · rintro σ' ys H' ⟨_,s,h1,h2⟩;refine⟨p,BF (ps.map λp=>V.ref p.1).length true,rfl,SqL.of (by rw[h1,h2,DK]),_,rfl,?_⟩;rw[show(BF (ps.map λp=>V.ref p.1).length true).all id=true by simp];refine Hr ⟨_,rfl,a,ps.map (λp=>(p.1,p.2.1,[eV p.2.2.1,eV p.2.2.2])),rfl,?_,by rw[Ab];exact ll,?_,?_,λH2 s2=>q H2 (s.trans s2)⟩
   · rw[BP];exact s _ _ hA
   · intro r hr;rw[AM] at hr;obtain⟨P1,hm,rfl⟩:=hr;exact s _ _ (hP P1 hm)
   · intro i r1 r2 h3 h4;rw[Af] at h3 h4;cases e1:ps[i]? with
     | none=>rw[e1] at h3;cases h3
     | some P1=>
      cases e2:ps[i+1]? with
      | none=>rw[e2] at h4;cases h4
      | some P2=> rw[e1] at h3;rw[e2] at h4;obtain rfl:=AB h3;obtain rfl:=AB h4;have l2:=(An.mp e2).1;have:=D9.mp wok.asc i (i+1) (by simp;omega) (by simp;omega) (by omega);simp only[Fe] at this;rw[(An.mp e1).2,(An.mp e2).2] at this;exact this
theorem XY(F:Fun K "are_wishes" "are_wishes" N4 f fd)(GB:Γ9 P w K mg base):FnOk P w K mg base HJ 6 f fd ["thing"] (QK):=by
 refine F.ok Yp (λvs H Q E h=>?_) (λcdv A outer s H vs Q E hr h=>?_)
 · obtain⟨l,ws,rfl,hw,q⟩:=h;rfl
 obtain⟨l,ws,rfl,hw,q⟩:=h;refine⟨_,(Hw (HF (KY (HK (Kj (n:="")) rfl B.isinstance_ Kk (Hf (pv 0) (Hf (Ke (v:= .ty "list") rfl B.list_ L_ rfl) Hg))) (KC (HK (Lc rfl) rfl B.all_ KW (Hf (Jw (N':=["wish"]) (js:=[none]) rfl (IH (N:=["thing"]) (outer:=Hy N4) (by decide+kernel)) (Jk (pv 0)) (λ_ _ _ _ _=>(HA (i:=0) Pt rfl (Or.inl rfl))) (λ_ _ _ _ _=>Jg) (λ_ _ _ _ _=>(Hz GB (hr.mono (by decide)) rfl (Hf (pv 0) Hg)))) Hg)))))),?_⟩;have hA:=hw.at';refine⟨_,rfl,_,"list","list",true,rfl,.lst hA,rfl,_,rfl,Hr ?_⟩;refine⟨_,rfl,l,rfl,⟨_,SqL.of hA⟩,λp hp=>?_⟩;refine Ks (xs:=ws.map λx=>V.ref x.1) (λi σ' ys H'=>(∃v,σ'=[v])∧Same H H'∧H' p=some (.lst ys)∧ys=BF i (V.bl true)) ⟨⟨none,rfl⟩,Hx hp _,Hl,rfl⟩ ?_ ?_ ?_
 · rintro i σ' ys H' hi ⟨_,s,h1,h2⟩;refine⟨s.seq (SqL.of hA),h1,?_⟩;rw[h2,CW];rw[Ab] at hi;have:=hw.len;exact IB (by omega)
 · rintro i x σ' ys H' N hx ⟨⟨v,rfl⟩,s,h1,h2⟩ hN;obtain⟨P1,e1,rfl⟩:=HR hx;obtain⟨o1,o2⟩:=hw.ok P1 (Ak e1);refine⟨_,rfl,P1.1,P1.2,rfl,o1.same s,o2,λH2 s2=>?_⟩;refine⟨s2 _ _ h1,hN _ _ _ ⟨⟨_,rfl⟩,JA (s.trans s2) hp,Hl,by rw[h2];exact Dy.symm⟩⟩
 · rintro σ' ys H' ⟨_,s,h1,h2⟩;refine⟨p,BF (ws.map λx=>V.ref x.1).length true,rfl,SqL.of (by rw[h1,h2,DK]),?_⟩;rw[show(BF (ws.map λx=>V.ref x.1).length true).all id=true by simp];exact q _ s
theorem Y6(F:Fun K "check_wishes" "check_wishes" OW f fd)(GC:Γ10 P w K mg base):FnOk P w K mg base HJ 7 f fd ["thing"] (R0):=by
 refine F.ok Y1 (λvs H Q E h=>?_) (λcdv A outer s H vs Q E hr h=>?_)
 · obtain⟨l,ws,rfl,hw,q⟩:=h;rfl
 obtain⟨l,ws,rfl,hw,q⟩:=h;refine⟨_,(Hw (Ia (JH (JD (Hz GC (hr.mono (by decide)) rfl (Hf (pv 0) Hg)))) (Hw Mk) Ig)),?_⟩;exact⟨_,rfl,l,ws,rfl,hw,λH' s=>⟨_,rfl,Hs (q H' s)⟩⟩
theorem Yw(F:Fun K "spans_by_field" "spans_by_field" NA f fd)  :FnOk P w K mg base HJ 1 f fd ["wish"] (So):=by
 refine F.ok Yx (λvs H Q E h=>?_) (λcdv A outer s H vs Q E hr h=>?_)
 · obtain⟨a,w',rfl,hw,wok,q⟩:=h;rfl
 obtain⟨a,w',rfl,hw,wok,q⟩:=h;refine⟨_,(Hw (HF (TH (N':=["field","low","high"]) (js:=[none,none,none]) rfl (IH (N:=["wish"]) (outer:=Hy NA) (by decide+kernel)) (Ku (pv 0)) (λ_ _ _ _ _=>(Mb K rfl (n:=3) rfl (HG (HA (i:=0) Lq rfl (Or.inl rfl)) (HG (HA (i:=1) Lq rfl (Or.inl rfl)) (HG (HA (i:=2) Lq rfl (Or.inl rfl)) IW))))) (λ_ _ _ _ _=>Jg) (λ_ _ _ _ _=>(pv 0)) (λ_ _ _ _ _=>(Ir (Hf (pv 1) (Hf (pv 2) Hg))))))),?_⟩;obtain⟨ps,rfl,hA,hP⟩:=hw;have ll:ps.length≤100:=by have:=wok.len;rw[Ab] at this;exact this
 refine⟨_,rfl,a,rfl,⟨_,SqT.of hA⟩,λd hd=>?_⟩;refine Te (xs:=ps.map λp=>V.ref p.1) (λi σ' kvs H'=>(∃v1 v2 v3,σ'=[v1,v2,v3])∧Same H H'∧H' d=some (.dK kvs)∧kvs.length≤i∧(∃bs,kvs=J2 bs∧bs.map (·.1)=((ps.map (·.2)).take i).map (·.1))∧∀f:Str,match Hv ((ps.map (·.2)).take i) f with
  | none=>HH kvs (.inr f)=none
  | some s=>∃t,HH kvs (.inr f)=some (.ref t)∧H' t=some (.tup [eV s.1,eV s.2])) ⟨⟨none,none,none,rfl⟩,Hx hd _,Hl,Bo _,⟨[],rfl,rfl⟩,λf=>rfl⟩ ?_ ?_ ?_
 · rintro i σ' kvs H' hi ⟨_,s,h1,h2,_⟩;rw[Ab] at hi;exact⟨s.seqT (SqT.of hA),h1,IB (by omega)⟩
 · rintro i x σ' kvs H' N hx ⟨⟨v1,v2,v3,rfl⟩,s,h1,h2,⟨bs,rfl,kb⟩,h3⟩ hN;obtain⟨P1,e1,rfl⟩:=HR hx;have hm:=Ak e1;refine⟨P1.1,_,rfl,SqT.of (s _ _ (hP P1 hm)),rfl,_,_,rfl,_,_,rfl,_,_,rfl,rfl,?_⟩;refine⟨_,rfl,_,rfl,_,rfl,Jp,λu hu=>?_⟩;have su:=Hx hu (.tup [eV P1.2.2.1,eV P1.2.2.2]);have eu:(Hh H' u (.tup [eV P1.2.2.1,eV P1.2.2.2])) u=some (.tup [eV P1.2.2.1,eV P1.2.2.2]):=Hl;have h1':=su _ _ h1;generalize Hh H' u (.tup [eV P1.2.2.1,eV P1.2.2.2])=H2 at*;have du:u≠d:=JX eu h1' (by intro z;cases z);refine⟨Sum.inr P1.2.1,rfl,h1',hN _ _ _ ⟨⟨_,_,_,rfl⟩,JA (s.trans su) hd,Hl,?_,⟨IQ bs P1.2.1 (V.ref u),Oy _ _ _,?_⟩,λf=>?_⟩⟩
   · have:=Nl (J2 bs) (Sum.inr P1.2.1:HD) (V.ref u);omega
   · have ew:(ps.map (·.2))[i]?=some P1.2:=by rw[Af,e1];rfl
     have fr:=RM (wok.fresh ew);rw[Sb,if_neg,kb,Iw ew,Ah]
     · rfl
     · rw[kb];intro z;obtain⟨y,hy,ey⟩:=AM.mp z;exact fr y hy ey
   · have ew:(ps.map (·.2))[i]?=some P1.2:=by rw[Af,e1];rfl
     have fr:=wok.fresh ew;rw[Iw ew,SN _ _ _ fr,RH];by_cases hf:f=P1.2.1
     · subst hf;rw[if_pos rfl,if_pos rfl];exact⟨u,rfl,by rw[HC du];exact eu⟩
     · rw[if_neg hf,if_neg (λz=>hf (by injection z))];have:=h3 f;cases hs:Hv ((ps.map (·.2)).take i) f with
       | none=>rw[hs] at this;exact this
       | some sp=> rw[hs] at this;obtain⟨t,t1,t2⟩:=this;exact⟨t,t1,by rw[HC (JX (su _ _ t2) h1' (by intro z;cases z))];exact su _ _ t2⟩
 · rintro σ' kvs H' ⟨_,s,h1,h2,⟨bs,rfl,kb⟩,h3⟩;have et:(ps.map (·.2)).take (ps.map λp=>V.ref p.1).length=ps.map (·.2):=AH (by simp);rw[et] at kb;refine q d H' s hd ⟨bs,h1,kb,λf=>?_⟩;have:=h3 f;rw[et] at this;rw[Lj] at this;exact this
theorem Yn(F:Fun K "wish_shared" "wish_shared" Ny f fd)(GD:Γ12 P w K mg base)(GE:Γ5 P w K mg base):FnOk P w K mg base HJ 2 f fd ["one","other"] (Qv):=by
 refine F.ok Gi (λvs H Q E h=>?_) (λcdv A outer s H vs Q E hr h=>?_)
 · obtain⟨a,b,w1,w2,rfl,hw1,hw2,ok1,ok2,hl,qN,qS⟩:=h;rfl
 obtain⟨a,b,w1,w2,rfl,hw1,hw2,ok1,ok2,hl,qN,qS⟩:=h;refine⟨_,(Hq (HB (i:=2) Gi.nd rfl (Or.inr rfl) (Hz GD (hr.mono (by decide)) rfl (Hf (pv 0) Hg)))
  (Hq (JG BJ rfl (Ku (pv 1)) (Jq rfl (HG (HA (i:=3) Gi.nd rfl (Or.inl rfl)) (HG (HA (i:=4) Gi.nd rfl (Or.inl rfl)) (HG (HA (i:=5) Gi.nd rfl (Or.inl rfl)) IW)))) (Hq (HB (i:=6) Gi.nd rfl (Or.inl rfl) (Hz GE (hr.mono (by decide)) rfl (Hf (Rx (LP hr) (pv 2) (pv 3) (Ir (Hf IY (Hf IY Hg))) ⟨rfl,rfl,rfl,rfl⟩) (Hf (Ir (Hf (pv 4) (Hf (pv 5) Hg))) Hg))))
  (Hq (Ia (Jj (J9 (pv 6))) (Hw (HF IY)) Ig)
  (Hw (Ul (LP hr) (pv 2) (pv 3) (pv 6) rfl)))))
  (Hw (HF (Lf Nv rfl B.tuple_ Lb (Hf (Jw (N':=["field","met"]) (js:=[none,some 2]) rfl (IH (N:=["one","other","met","field","low","high","shared"]) (outer:=Hy Ny) (by decide+kernel)) (Jk (HK (XR rfl) rfl B.sorted_ Op (Hf (pv 2) Hg))) (λ_ _ _ _ _=>(HA (i:=0) Ps rfl (Or.inl rfl))) (λ_ _ _ _ _=>Jg) (λ_ _ _ _ _=>(Ir (Hf (pv 0) (Hf (HW (MX K rfl) (QY (LP hr) (pv 1) (pv 0) (λ_ _=>rfl)) Hk (λ_ _=>rfl)) (Hf (HW (MX K rfl) (QY (LP hr) (pv 1) (pv 0) (λ_ _=>rfl)) Hk (λ_ _=>rfl)) Hg)))))) Hg)))))),?_⟩
 refine⟨_,rfl,a,w1,rfl,hw1,ok1,λd H1 s1 n1 D1=>?_⟩;obtain⟨bs0,b1,b2,b3⟩:=D1;obtain⟨ps,rfl,hA,hP⟩:=hw2.same s1;have bd:b≠d:=JX hA b1 (by intro z;cases z);have pd:∀p∈ps,p.1≠d:=λp hp=>JX (hP p hp) b1 (by intro z;cases z);refine⟨_,rfl,b,rfl,⟨_,SqT.of hA⟩,Ob (K:=K) (a:=b) (xs:=ps.map λp=>V.ref p.1) (λi σ H'=>(∃y3 y4 y5 y6,σ=[some (.ref a),some (.ref b),some (.ref d),y3,y4,y5,y6])∧(∀c o,H1 c=some o→c≠d→H' c=some o)∧∃bs:List (Str×V),H' d=some (.dK (J2 bs))∧(bs.map (·.1)).Nodup∧bs.length≤w1.length+i∧Jz w1 ((ps.map (·.2)).take i)=false∧
  ∀f:Str,match IR (Hv w1 f) (Hv ((ps.map (·.2)).take i) f) with
   | none=>Ij bs f=none
   | some s=>∃t,Ij bs f=some (.ref t)∧H' t=some (.tup [eV s.1,eV s.2])) ?_ ?_ ?_ ?_⟩
 · refine⟨⟨none,none,none,none,rfl⟩,λc o h _=>h,bs0,b1,?_,?_,rfl,λf=>?_⟩
   · rw[b2];exact VH ok1.asc
   · have:=congrArg Be b2;simp at this;omega
   · have:=b3 f;cases e:Hv w1 f with
     | none=>rw[e] at this;exact this
     | some s=>rw[e] at this;exact this
 · rintro i σ H' _ ⟨_,kp,_⟩;exact SqT.of (kp _ _ hA bd)
 · rintro i x σ H2 hx ⟨⟨y3,y4,y5,y6,rfl⟩,kp,bs,k1,k2,k3,k4,k5⟩;obtain⟨P1,e1,rfl⟩:=HR hx;have hm:=Ak e1;have li:=(An.mp e1).1;have ew:(ps.map (·.2))[i]?=some P1.2:=by rw[Af,e1];rfl
   have fr:=ok2.fresh ew;have kf:=k5 P1.2.1;rw[fr] at kf;refine⟨P1.1,_,rfl,SqT.of (kp _ _ (hP P1 hm) (pd P1 hm)),rfl,_,_,rfl,_,_,rfl,_,_,rfl,rfl,?_⟩;refine⟨_,rfl,d,rfl,.inl ⟨J2 bs,.inl k1⟩,_,rfl,Jp,λv hv=>?_⟩;have sv:=Hx hv (.tup [V.non,V.non]);have ev:(Hh H2 v (.tup [V.non,V.non])) v=some (.tup [V.non,V.non]):=Hl;have k1v:=sv _ _ k1;generalize Hh H2 v (.tup [V.non,V.non])=H3 at*;have gd:=DGet.k (k:=Sum.inr P1.2.1) k1v;rw[Lj] at gd;obtain⟨sp,esp,tt,ett,htt⟩:∃sp:HS,(Hv w1 P1.2.1).getD (none,none)=sp∧∃tt,(Ij bs P1.2.1).getD (.ref v)= .ref tt∧H3 tt=some (.tup [eV sp.1,eV sp.2]):=by
    cases hs:Hv w1 P1.2.1 with
    | none=>rw[hs] at kf;rw[show Ij bs P1.2.1=none from kf];exact⟨(none,none),rfl,v,rfl,ev⟩
    | some sp=>rw[hs] at kf;obtain⟨t,z1,z2⟩:=kf;rw[z1];exact⟨sp,rfl,t,rfl,sv _ _ z2⟩
   refine⟨_,gd,?_⟩;rw[ett];refine⟨_,rfl,_,rfl,Jp,λu hu=>?_⟩;have su:=Hx hu (.tup [eV P1.2.2.1,eV P1.2.2.2]);refine⟨.ref tt,.ref u,sp.1,sp.2,P1.2.2.1,P1.2.2.2,rfl,⟨tt,rfl,su _ _ htt⟩,⟨u,rfl,Hl⟩,λv' H4 s4 m4=>?_⟩;have s24:Same H2 H4:=sv.trans (su.trans s4);have sH4:Same H H4:=λc o h=>s24 _ _ (kp _ _ (s1 _ _ h) (λe=>by rw[e,n1] at h;cases h));have le1:=(ok2.ok P1.2 (AC hm)).2;unfold MR at m4;by_cases ap:Ic (IE sp.1 P1.2.2.1) (IF sp.2 P1.2.2.2)=true
   · rw[if_pos ap] at m4;subst m4;have aw:Jz w1 (ps.map (·.2))=true:=by
      refine BC.mpr ⟨P1.2,AC hm,?_⟩;unfold LU;cases hs:Hv w1 P1.2.1 with
      | none=> rw[hs] at esp;subst esp;have:Ic P1.2.2.1 P1.2.2.2=true:=ap;rw[RS,this] at le1;cases le1
      | some s=> rw[hs] at esp;obtain rfl:s=sp:=esp;exact ap
     exact⟨_,rfl,_,rfl,Hr (qN aw _ sH4)⟩
   · rw[if_neg ap] at m4;obtain⟨t4,rfl,e4⟩:=m4;have k14:=s24 _ _ k1;have td:t4≠d:=JX e4 k14 (by intro z;cases z);refine⟨_,rfl,_,rfl,Hs ⟨_,rfl,_,rfl,_,rfl,d,_,rfl,DPut.k (k:=Sum.inr P1.2.1) k14 (IB (by unfold J2;rw[Ab];have:=ok1.len;have:=ok2.len;simp at this;omega)),⟨_,_,_,_,rfl⟩,λc o h cd=>by rw[HC cd];exact s24 _ _ (kp c o h cd),IQ bs P1.2.1 (V.ref t4),by rw[Hl,Oy],WQ k2 _ _,?_,?_,λf=>?_⟩⟩
     · have:=VU bs P1.2.1 (V.ref t4);omega
     · rw[Iw ew];unfold Jz at k4 ⊢;rw[Dq,k4];simp only[BO,List.any_nil,Bool.or_false,Bool.false_or];unfold LU;cases hs:Hv w1 P1.2.1 with
       | none=>rfl
       | some s=> rw[hs] at esp;obtain rfl:s=sp:=esp;simpa using ap
     · rw[Iw ew,SN _ _ _ fr,U_];by_cases hf:f=P1.2.1
       · subst hf;rw[if_pos rfl,if_pos rfl];have em:IR (Hv w1 P1.2.1) (some P1.2.2)=some (IE sp.1 P1.2.2.1,IF sp.2 P1.2.2.2):=by
          cases hs:Hv w1 P1.2.1 with
          | none=>rw[hs] at esp;subst esp;rfl
          | some s=>rw[hs] at esp;obtain rfl:s=sp:=esp;rfl
         rw[em];exact⟨t4,rfl,by rw[HC td];exact e4⟩
       · rw[if_neg hf,if_neg hf];have:=k5 f;cases hs:IR (Hv w1 f) (Hv ((ps.map (·.2)).take i) f) with
         | none=>rw[hs] at this;exact this
         | some s=> rw[hs] at this;obtain⟨t,t1,t2⟩:=this;exact⟨t,t1,by rw[HC (JX (s24 _ _ t2) k14 (by intro z;cases z))];exact s24 _ _ t2⟩
 · rintro σ H2 ⟨⟨y3,y4,y5,y6,rfl⟩,kp,bs,k1,k2,k3,k4,k5⟩;have et:(ps.map (·.2)).take (ps.map λp=>V.ref p.1).length=ps.map (·.2):=AH (by simp);rw[et] at k4 k5;have lb:bs.length≤60:=by simp at k3 hl;omega
   have sH2:Same H H2:=λc o h=>kp _ _ (s1 _ _ h) (λe=>by rw[e,n1] at h;cases h);refine⟨_,rfl,d,J2 bs,bs.map (·.1),rfl,.inl k1,Ve bs,(by rw[Ab];omega),λz ms mp mn mso hz=>?_⟩;have sz:=Hx hz (.lst (ms.map V.str));have lms:ms.length=bs.length:=by have:=mp.length_eq;simpa using this
   have hk:∀f,f∈ms↔(IR (Hv w1 f) (Hv (ps.map (·.2)) f)).isSome=true:=λf=>by
    rw[mp.mem_iff,UZ];have:=k5 f;cases hs:IR (Hv w1 f) (Hv (ps.map (·.2)) f) with
    | none=>rw[hs] at this;rw[show Ij bs f=none from this];simp
    | some s=>rw[hs] at this;obtain⟨t,t1,_⟩:=this;rw[t1];simp
   have im:IsMet w1 (ps.map (·.2)) (JW w1 (ps.map (·.2)) ms):=Rp (OF mso mn) hk (by simp at k3 ⊢;omega);have mk:(JW w1 (ps.map (·.2)) ms).map (·.1)=ms:=by unfold JW;rw[BP];exact Ez _
   refine⟨z,rfl,⟨_,SqL.of Hl⟩,λp hp=>?_⟩;refine Vg (cap:=[some (.ref d)]) (JW w1 (ps.map (·.2)) ms) (by unfold JW;rw[Ab];omega) (by rw[mk];exact SqL.of Hl) hp rfl ?_ ?_
   · intro x hx H' R s' hR;have kd:=s' _ _ (sz _ _ k1);obtain⟨f,hf,rfl⟩:=AM.mp hx;have hso:=(hk f).mp hf;have kf:=k5 f;obtain⟨tt,t1,t2⟩:∃t,Ij bs f=some (.ref t)∧H2 t=some (.tup [eV (L4 w1 (ps.map (·.2)) f).1,eV (L4 w1 (ps.map (·.2)) f).2]):=by
      unfold L4;cases hs:IR (Hv w1 f) (Hv (ps.map (·.2)) f) with
      | none=>rw[hs] at hso;cases hso
      | some s=>rw[hs] at kf;exact kf
     have gd:DGet H' d (.str f) (some (.ref tt)):=by have:=DGet.k (k:=Sum.inr f) kd;rw[Lj,t1] at this;exact this
     have t3:=s' _ _ (sz _ _ t2);exact⟨_,rfl,_,rfl,_,rfl,d,_,rfl,gd,tt,_,0,_,rfl,rfl,SqT.of t3,rfl,_,rfl,_,rfl,d,_,rfl,gd,tt,_,1,_,rfl,rfl,SqT.of t3,rfl,MP,hR⟩
   intro H3 qs s3 q1 q2 q3;refine⟨p,_,rfl,.inl ⟨SqL.of q2,λt ht=>?_⟩⟩;have st:=Hx ht (.tup (qs.map λq=>V.ref q.1));exact qS k4 t _ _ im (sH2.trans (sz.trans (s3.trans st))) ⟨qs,q1,Hl,λq hq=>st _ _ (q3 q hq)⟩
theorem Yz(F:Fun K "spans_beside" "spans_beside" OY f fd)  :FnOk P w K mg base HJ 1 f fd ["span","inner"] (SS):=by
 refine F.ok Gj (λvs H Q E h=>?_) (λcdv A outer s H vs Q E hr h=>?_)
 · obtain⟨v,w',s',t',rfl,S1,S2,W,q⟩:=h;rfl
 obtain⟨v,w',s',t',rfl,S1,S2,W,q⟩:=h;refine⟨_,(Hq (JM (pv 0) (Jq rfl (HG (HA (i:=2) Gj.nd rfl (Or.inl rfl)) (HG (HA (i:=3) Gj.nd rfl (Or.inl rfl)) IW))))
  (Hq (JM (pv 1) (Jq rfl (HG (HA (i:=4) Gj.nd rfl (Or.inl rfl)) (HG (HA (i:=5) Gj.nd rfl (Or.inl rfl)) IW))))
  (Hq (HB (i:=6) Gj.nd rfl (Or.inl rfl) (Mj (Io MQ (pv 4) (pv 2) (Ih _)) (Je (Hf (Ir (Hf (pv 2) (Hf (Hu Ka (pv 4) Hk) Hg))) Hg)) (Je Hg)))
  (Hq (HB (i:=7) Gj.nd rfl (Or.inl rfl) (Mj (Io MQ (pv 5) (pv 3) (Ih _)) (Je (Hf (Ir (Hf (Hu Ip (pv 5) Hk) (Hf (pv 3) Hg))) Hg)) (Je Hg)))
  (Hw (HF (Hu LW (pv 6) (pv 7)))))))),?_⟩
 obtain⟨a,rfl,ea⟩:=S1;obtain⟨b,rfl,eb⟩:=S2;obtain⟨a1,b1⟩:=s';obtain⟨c1,d1⟩:=t';dsimp only at ea eb;refine⟨_,rfl,a,_,rfl,SqT.of ea,rfl,_,_,rfl,_,_,rfl,rfl,?_⟩;refine⟨_,rfl,b,_,rfl,SqT.of eb,rfl,_,_,rfl,_,_,rfl,rfl,?_⟩;dsimp only;refine Kb (λσ' H'=>∃(r1:Addr)(ss:List (Addr×HS)),σ'=[some (.ref a),some (.ref b),some (eV a1),some (eV b1),some (eV c1),some (eV d1),some (.ref r1),none]∧Same H H'∧H' r1=some (.lst (ss.map λx=>V.ref x.1))∧ss.map (·.2)=below (a1,b1) (c1,d1)∧∀x∈ss,H' x.1=some (.tup [eV x.2.1,eV x.2.2])) (λZ hZ=>?_) ?_
 · cases c1 with
   | none=>
    have e0:a1=none:=by
     cases a1 with
     | none=>rfl
     | some l=>obtain⟨k,hk,_⟩:=W.lo l rfl;cases hk
    subst e0;refine⟨_,rfl,_,rfl,rfl,_,rfl,PV rfl ⟨K1,λr1 hr1=>?_⟩⟩;exact hZ _ _ ⟨r1,[],rfl,Hx hr1 _,Hl,rfl,λx hx=>by simp at hx⟩
   | some l=>
    refine⟨_,rfl,_,rfl,by cases a1<;>rfl,_,rfl,HI (λh=>?_) (λh=>?_)⟩
    · have ne:a1≠some l:=λe=>by rw[e] at h;simp at h
      refine⟨_,rfl,_,rfl,_,_,rfl,rfl,Jp,λt ht=>?_⟩;have s3:=Hx ht (.tup [eV a1,V.int (l - 1)]);have e3:(Hh H t (.tup [eV a1,V.int (l - 1)])) t=some (.tup [eV a1,V.int (l - 1)]):=Hl;dsimp only;generalize Hh H t (.tup [eV a1,V.int (l - 1)])=H3 at*;refine⟨JU,λr1 hr1=>?_⟩;have s4:=Hx hr1 (.lst [V.ref t]);refine hZ _ _ ⟨r1,[(t,(a1,some (l - 1)))],rfl,s3.trans s4,Hl,?_,λx hx=>?_⟩
      · show _=(if _ then _ else _)
        rw[if_neg ne];rfl
      · rw[Ae.mp hx];exact s4 _ _ e3
    · have e:a1=some l:=by
       by_cases e:a1=some l
       · exact e
       · exact absurd (by simp;exact λz=>e (Q7 (a:=a1) (b:=some l) z.symm)) h
      subst e;refine⟨K1,λr1 hr1=>?_⟩;exact hZ _ _ ⟨r1,[],rfl,Hx hr1 _,Hl,by show []=(if _ then _ else _);rw[if_pos rfl],λx hx=>by simp at hx⟩
 rintro σ' H1 ⟨r0,ss,rfl,s1,e1,f1,g1⟩;refine Kb (λσ' H'=>∃(r1:Addr)(ss:List (Addr×HS)),σ'=[some (.ref a),some (.ref b),some (eV a1),some (eV b1),some (eV c1),some (eV d1),some (.ref r0),some (.ref r1)]∧Same H1 H'∧H' r1=some (.lst (ss.map λx=>V.ref x.1))∧ss.map (·.2)=above (a1,b1) (c1,d1)∧∀x∈ss,H' x.1=some (.tup [eV x.2.1,eV x.2.2])) (λZ hZ=>?_) ?_
 · cases d1 with
   | none=>
    have e0:b1=none:=by
     cases b1 with
     | none=>rfl
     | some l=>obtain⟨k,hk,_⟩:=W.hi l rfl;cases hk
    subst e0;refine⟨_,rfl,_,rfl,rfl,_,rfl,PV rfl ⟨K1,λr1 hr1=>?_⟩⟩;exact hZ _ _ ⟨r1,[],rfl,Hx hr1 _,Hl,rfl,λx hx=>by simp at hx⟩
   | some l=>
    refine⟨_,rfl,_,rfl,by cases b1<;>rfl,_,rfl,HI (λh=>?_) (λh=>?_)⟩
    · have ne:b1≠some l:=λe=>by rw[e] at h;simp at h
      refine⟨_,rfl,_,_,rfl,rfl,_,rfl,Jp,λt ht=>?_⟩;have s3:=Hx ht (.tup [V.int (l+1),eV b1]);have e3:(Hh H1 t (.tup [V.int (l+1),eV b1])) t=some (.tup [V.int (l+1),eV b1]):=Hl;dsimp only;generalize Hh H1 t (.tup [V.int (l+1),eV b1])=H3 at*;refine⟨JU,λr1 hr1=>?_⟩;have s4:=Hx hr1 (.lst [V.ref t]);refine hZ _ _ ⟨r1,[(t,(some (l+1),b1))],rfl,s3.trans s4,Hl,?_,λx hx=>?_⟩
      · show _=(if _ then _ else _)
        rw[if_neg ne];rfl
      · rw[Ae.mp hx];exact s4 _ _ e3
    · have e:b1=some l:=by
       by_cases e:b1=some l
       · exact e
       · exact absurd (by simp;exact λz=>e (Q7 (a:=b1) (b:=some l) z.symm)) h
      subst e;refine⟨K1,λr1 hr1=>?_⟩;exact hZ _ _ ⟨r1,[],rfl,Hx hr1 _,Hl,by show []=(if _ then _ else _);rw[if_pos rfl],λx hx=>by simp at hx⟩
 rintro σ' H2 ⟨r1,us,rfl,s2,e2,f2,g2⟩;have l1:ss.length≤10:=by have h1:=congrArg Be f1;have h2:=Mo (a1,b1) (c1,d1);unfold IX at h2;rw[Au] at h2;rw[Ab] at h1;omega
 have l2:us.length≤10:=by have h1:=congrArg Be f2;have h2:=Mo (a1,b1) (c1,d1);unfold IX at h2;rw[Au] at h2;rw[Ab] at h1;omega
 refine⟨_,rfl,_,rfl,r0,r1,_,_,rfl,rfl,s2 _ _ e1,e2,by rw[Ab,Ab];exact Kq (by omega),λr hr'=>?_⟩;have s3:=Hx hr' (.lst (ss.map (λx=>V.ref x.1)++us.map (λx=>V.ref x.1)));refine q r (ss++us) _ ((s1.trans s2).free hr') (s1.trans (s2.trans s3)) ?_ ?_ λx hx=>?_
 · rw[Ah,f1,f2];rfl
 · rw[Hl,Ah]
 · rcases As.mp hx with z | z
   · exact s3 _ _ (s2 _ _ (g1 x z))
   · exact s3 _ _ (g2 x z)
theorem Y8(F:Fun K "parts_beside_one" "parts_beside_one" Pa f fd)(GF:Γ13 P w K mg base)(GG:Γ14 P w K mg base):FnOk P w K mg base HJ 3 f fd ["wish","other"] (Sn):=by
 refine F.ok Gk (λvs H Q E h=>?_) (λcdv A outer s H vs Q E hr h=>?_)
 · obtain⟨a,b,w',o,rfl,hw,ho,kw,ko,lw,lo,q⟩:=h;rfl
 obtain⟨a,b,w',o,rfl,hw,ho,kw,ko,lw,lo,q⟩:=h;refine⟨_,(Hq (HB (i:=2) Gk.nd rfl (Or.inl rfl) (Hz GF (hr.mono (by decide)) rfl (Hf (pv 0) (Hf (pv 1) Hg))))
  (Hq (Ia (PW.pt (KR (Jj (J9 (pv 2))) (K_ (Io L1 (HK IM rfl B.len_ IC (Hf (pv 2) Hg)) (HK IM rfl B.len_ IC (Hf (pv 0) Hg)) (Ih _))))) (Hw (HF (Je (Hf (pv 0) Hg)))) Ig)
  (Hq (HB (i:=3) Gk.nd rfl (Or.inl rfl) (Je Hg))
  (Hq (JG BJ rfl (Vm rfl B.enumerate_ (Hf (pv 0) Hg)) (Jq rfl (HG (HA (i:=4) Gk.nd rfl (Or.inl rfl)) (HG (Jq rfl (HG (HA (i:=5) Gk.nd rfl (Or.inl rfl)) (HG (HA (i:=6) Gk.nd rfl (Or.inl rfl)) (HG (HA (i:=7) Gk.nd rfl (Or.inl rfl)) IW)))) IW))) (Hw (JG BJ rfl (Jk (Hz GG (hr.mono (by decide)) rfl (Hf (Ir (Hf (pv 6) (Hf (pv 7) Hg))) (Hf (Ir (Hf (HW J0 (HW J0 (pv 2) (pv 4) (λ_ _=>rfl)) Hk (λ_ _=>rfl)) (Hf (HW J0 (HW J0 (pv 2) (pv 4) (λ_ _=>rfl)) Hk (λ_ _=>rfl)) Hg))) Hg)))) (Jq rfl (HG (HA (i:=8) Gk.nd rfl (Or.inl rfl)) (HG (HA (i:=9) Gk.nd rfl (Or.inl rfl)) IW))) (Hw (Kf (KA BY Dl Dm LJ (pv 3) (Hf (Hu JN (Hu JN (Iz Kh (pv 2) I0 (IA (pv 4))) (Ir (Hf (Ir (Hf (pv 5) (Hf (pv 8) (Hf (pv 9) Hg)))) Hg))) (Iz Kh (pv 0) (IA (Hu Ip (pv 4) Hk)) I0)) Hg)))))))
  (Hw (HF (pv 3))))))),?_⟩
 have whole:∀(H1:Hp),Same H H1→one w' o=[w']→OneOk w' o (one w' o)→∀r,H1 r=none→Q (.ref r) (Hh H1 r (.lst [V.ref a])):=λH1 s1 e ok r hr=>by have s2:=Hx hr (.lst [V.ref a]);refine q r _ (s1.free hr) (s1.trans s2) ?_ ok;rw[e];exact⟨[(a,w')],rfl,Hl,λx hx=>by rw[Ae.mp hx];exact hw.same (s1.trans s2)⟩
 refine⟨_,rfl,_,rfl,a,b,w',o,rfl,hw,ho,kw,ko,by omega,λap H1 s1=>?_,λap mr m H1 im s1 hm=>?_⟩
 · have e1:one w' o=[w']:=by unfold one;rw[if_pos ap]
   exact⟨_,rfl,_,rfl,Hr (Hr ⟨_,rfl,JU,whole H1 s1 e1 (by rw[e1];exact RU kw ko ap)⟩)⟩
 have te:=Mh im;have hm':=hm;have hw1':=hw.same s1;obtain⟨ms,hms,hA,hP⟩:=hm;obtain⟨ws,hws,hB,hR⟩:=hw.same s1;have lm:ms.length=m.length:=by rw[←hms,Ab]
 have lws:ws.length=w'.length:=by rw[←hws,Ab]
 refine⟨_,rfl,_,rfl,Hs ⟨_,rfl,mr,_,rfl,.inr (SqT.of hA),_,rfl,a,_,rfl,.inr (SqT.of hB),_,_,rfl,rfl,_,rfl,HI (λh=>?_) (λh=>?_)⟩⟩
 · have h1:w'.length<m.length:=by
    have:=of_decide_eq_true h;rw[Ab,Ab,lm,lws] at this;omega
   have e1:one w' o=[w']:=by unfold one;rw[if_neg (by rw[ap];simp),te,if_pos h1]
   exact⟨_,rfl,JU,whole H1 s1 e1 (by rw[e1];exact Rv kw ko im h1)⟩
 have h1:m.length≤w'.length:=by have:¬((((ms.map λp=>V.ref p.1).length:Nat):Int)>(((ws.map λp=>V.ref p.1).length:Nat):Int)):=λz=>h (decide_eq_true z);rw[Ab,Ab,lm,lws] at this;omega
 have e1:one w' o=LD w' m:=by unfold one;rw[if_neg (by rw[ap];simp),te,if_neg (by omega)]
 have hf:=No kw im h1;have ll:m.length=w'.length:=by have:=congrArg Be hf;simpa using this
 refine⟨K1,λpr hpr=>?_⟩;have s2:=Hx hpr (.lst []);have e2:(Hh H1 pr (.lst [])) pr=some (.lst []):=Hl;have np:H pr=none:=s1.free hpr;have hm2:=hm'.same s2;have hw2:=hw1'.same s2;have S2:=s1.trans s2;generalize Hh H1 pr (.lst [])=H2 at*;have hB2:SqT K H2 a (ws.map λp=>V.ref p.1):=SqT.of (s2 _ _ hB);have cl:∀l:List Nat,(l.flatMap (IK w' m)).length≤2*l.length:=λl=>by
  induction l with
  | nil=>simp
  | cons i l ih=>
   rw[CC,Au,AN];have:(IK w' m i).length≤2:=by
    unfold IK
    split
    · rw[Ab];exact Mo _ _
    · simp
   omega
 refine⟨_,rfl,a,rfl,⟨_,hB2⟩,V3 (K:=K) (a:=a) (xs:=ws.map λp=>V.ref p.1) (λi σ H'=>(∃y4 y5 y6 y7 y8 y9,σ=[some (.ref a),some (.ref b),some (.ref mr),some (.ref pr),y4,y5,y6,y7,y8,y9])∧Same H H'∧Tups H2 H'∧∃us:List (Addr×List WP),H' pr=some (.lst (us.map λz=>V.ref z.1))∧us.map (·.2)=(Bf i).flatMap (IK w' m)∧∀z∈us,WishAt H' z.1 z.2) ⟨⟨none,none,none,none,none,none,rfl⟩,S2,λ_ _ z=>z,[],e2,rfl,λz hz=>by simp at hz⟩ (λi σ H' _ ⟨_,_,z,_⟩=>SqT.of (z _ _ (s2 _ _ hB))) ?_ ?_⟩
 · rintro i x z σ H3 hx hz ⟨⟨y4,y5,y6,y7,y8,y9,rfl⟩,s3,t3,us,e3,u3,v3⟩;obtain⟨P1,ex,rfl⟩:=HR hx;have li:i<ws.length:=(An.mp ex).1;obtain⟨M1,em⟩:∃M1,ms[i]?=some M1:=⟨ms[i]'(by omega),Aq (by omega)⟩;have ewP:w'[i]?=some P1.2:=by rw[←hws,Af,ex];rfl
   have emP:m[i]?=some M1.2:=by rw[←hms,Af,em];rfl
   obtain⟨m1,m2,m3⟩:=Kt kw ko im ap hf ewP emP;have s4:=Hx hz (.tup [V.int (i:Int),V.ref P1.1]);have e4:(Hh H3 z (.tup [V.int (i:Int),V.ref P1.1])) z=some (.tup [V.int (i:Int),V.ref P1.1]):=Hl;have t4:Tups H2 (Hh H3 z (.tup [V.int (i:Int),V.ref P1.1])):=t3.trans s4.tups;have f4:=s4 _ _ e3;have v4:∀z'∈us,WishAt (Hh H3 z (.tup [V.int (i:Int),V.ref P1.1])) z'.1 z'.2:=λz' hz'=>(v3 z' hz').same s4;have S4:=s3.trans s4;generalize Hh H3 z (.tup [V.int (i:Int),V.ref P1.1])=H4 at*;have hA4:=t4 _ _ (s2 _ _ hA);have hB4:=t4 _ _ (s2 _ _ hB);have p4:=t4 _ _ (s2 _ _ (hR P1 (Ak ex)));have q4:=t4 _ _ (s2 _ _ (hP M1 (Ak em)));have hat:Jh (ms.map λp=>V.ref p.1) (i:Int)=some (V.ref M1.1):=Kd (by rw[Af,em];rfl);refine⟨z,_,rfl,SqT.of e4,rfl,_,_,rfl,_,_,rfl,⟨P1.1,_,rfl,SqT.of p4,rfl,_,_,rfl,_,_,rfl,_,_,rfl,rfl,rfl,?_⟩⟩;refine⟨_,rfl,_,rfl,Jp,λt1 ht1=>?_⟩;have s5:=Hx ht1 (.tup [eV P1.2.2.1,eV P1.2.2.2]);have e5:(Hh H4 t1 (.tup [eV P1.2.2.1,eV P1.2.2.2])) t1=some (.tup [eV P1.2.2.1,eV P1.2.2.2]):=Hl;generalize Hh H4 t1 (.tup [eV P1.2.2.1,eV P1.2.2.2])=H5 at*;refine⟨_,rfl,_,rfl,mr,_,_,_,rfl,rfl,SqT.of (s5 _ _ hA4),hat,M1.1,_,1,_,rfl,rfl,SqT.of (s5 _ _ q4),rfl,_,rfl,_,rfl,mr,_,_,_,rfl,rfl,SqT.of (s5 _ _ hA4),hat,M1.1,_,2,_,rfl,rfl,SqT.of (s5 _ _ q4),rfl,Jp,λt2 ht2=>?_⟩;have s6:=Hx ht2 (.tup [eV M1.2.2.1,eV M1.2.2.2]);have e6:(Hh H5 t2 (.tup [eV M1.2.2.1,eV M1.2.2.2])) t2=some (.tup [eV M1.2.2.1,eV M1.2.2.2]):=Hl;generalize Hh H5 t2 (.tup [eV M1.2.2.1,eV M1.2.2.2])=H6 at*;refine⟨.ref t1,.ref t2,P1.2.2,M1.2.2,rfl,⟨t1,rfl,s6 _ _ e5⟩,⟨t2,rfl,e6⟩,m2,λr ss H7 nr7 s7 f7 e7 g7=>?_⟩;have t7:=s5.trans (s6.trans s7);have S7:=S4.trans t7;have nr:r≠pr:=λz'=>by rw[z',s6 _ _ (s5 _ _ f4)] at nr7;cases nr7
   refine⟨r,rfl,⟨_,SqL.of e7⟩,Nb (K:=K) (a:=r) (xs:=ss.map λx=>V.ref x.1) (λj σ H'=>(∃y8 y9,σ=[some (.ref a),some (.ref b),some (.ref mr),some (.ref pr),some (.int (i:Int)),some (.str P1.2.1),some (eV P1.2.2.1),some (eV P1.2.2.2),y8,y9])∧Same H H'∧Tups H7 H'∧H' r=some (.lst (ss.map λx=>V.ref x.1))∧∃us:List (Addr×List WP),H' pr=some (.lst (us.map λz=>V.ref z.1))∧us.map (·.2)=(Bf i).flatMap (IK w' m)++((ss.take j).map λx=>m.take i++[(P1.2.1,x.2)]++w'.drop (i+1))∧∀z∈us,WishAt H' z.1 z.2) ?_ (λj σ H' _ ⟨_,_,_,z,_⟩=>SqL.of z) ?_ ?_⟩
   · exact⟨⟨_,_,rfl⟩,S7,λ_ _ z=>z,e7,us,t7 _ _ f4,by rw[u3];simp,λz' hz'=>(v4 z' hz').same t7⟩
   · rintro j x σ H8 hx ⟨⟨y8',y9',rfl⟩,s8,t8,r8,us8,e8,u8,v8⟩;obtain⟨N1,es,rfl⟩:=HR hx;have n8:=t8 _ _ (g7 N1 (Ak es));have hA8:=t8 _ _ (t7.tups _ _ hA4);have hB8:=t8 _ _ (t7.tups _ _ hB4);have lss:ss.length≤2:=by
      have h1:=congrArg Be f7;rw[Ab] at h1;have h2:=Mo P1.2.2 M1.2.2;omega
     have lus:us8.length≤100:=by have h1:=congrArg Be u8;rw[Ab,Au,Ab,A5] at h1;have h2:=cl (Bf i);rw[CB] at h2;omega
     refine⟨N1.1,_,rfl,SqT.of n8,rfl,_,_,rfl,_,_,rfl,rfl,?_⟩;refine⟨_,rfl,.inl ⟨rfl,_,SqL.of e8⟩,_,rfl,_,rfl,_,rfl,mr,_,rfl,hA8,λp1 H9 s9 e9=>?_⟩;rw[Md rfl,←CF] at e9;refine⟨_,rfl,_,rfl,_,rfl,MP,λc1 hc1=>?_⟩;have s10:=Hx hc1 (.tup [V.str P1.2.1,eV N1.2.1,eV N1.2.2]);have e10:(Hh H9 c1 (.tup [V.str P1.2.1,eV N1.2.1,eV N1.2.2])) c1=some (.tup [V.str P1.2.1,eV N1.2.1,eV N1.2.2]):=Hl;generalize Hh H9 c1 (.tup [V.str P1.2.1,eV N1.2.1,eV N1.2.2])=H10 at*;refine⟨JU,λc2 hc2=>?_⟩;have s11:=Hx hc2 (.tup [V.ref c1]);have e11:(Hh H10 c2 (.tup [V.ref c1])) c2=some (.tup [V.ref c1]):=Hl;generalize Hh H10 c2 (.tup [V.ref c1])=H11 at*;refine⟨p1,c2,_,_,rfl,rfl,s11 _ _ (s10 _ _ e9),e11,(by rw[Ab,A5];exact Kq (by simp;omega)),λd1 H12 s12 e12=>?_⟩;have t11:=s9.trans (s10.trans s11);refine⟨_,rfl,_,rfl,_,_,rfl,rfl,_,rfl,a,_,rfl,s12 _ _ (t11 _ _ hB8),λp2 H13 s13 e13=>?_⟩;rw[M_ (n:=i+1) (by omega),←D0] at e13;refine⟨d1,p2,_,_,rfl,rfl,s13 _ _ e12,e13,(by rw[Au,Ab,A5,Ab,BB];exact Kq (by simp;omega)),λd2 H14 s14 e14=>?_⟩;have t14:=t11.trans (s12.trans (s13.trans s14));have NE:((ms.take i).map λp:Addr×WP=>V.ref p.1)++[V.ref c1]++(ws.drop (i+1)).map (λp:Addr×WP=>V.ref p.1)=(ms.take i++[((c1,P1.2.1,N1.2):Addr×WP)]++ws.drop (i+1)).map λp:Addr×WP=>V.ref p.1:=by simp
     rw[NE] at e14;have W14:WishAt H14 d2 (m.take i++[(P1.2.1,N1.2)]++w'.drop (i+1)):=by
      refine⟨_,?_,e14,λy hy=>?_⟩
      · rw[Ah,Ah,CF,hms,D0,hws];rfl
      · rcases As.mp hy with y1 | y1
        · rcases As.mp y1 with y2 | y2
          · exact t14 _ _ (t8 _ _ (t7.tups _ _ (t4 _ _ (s2 _ _ (hP y (AO y2))))))
          · rw[Ae.mp y2];exact s14 _ _ (s13 _ _ (s12 _ _ (s11 _ _ e10)))
        · exact t14 _ _ (t8 _ _ (t7.tups _ _ (t4 _ _ (s2 _ _ (hR y (Cb y1))))))
     have f14:=t14 _ _ e8;refine⟨pr,_,_,rfl,rfl,f14,(by rw[Ab];exact IB (by omega)),?_⟩;have tl:=Kc (o:= .lst (us8.map (λq=>V.ref q.1)++[V.ref d2])) f14;refine⟨⟨_,_,rfl⟩,JA (s8.trans t14) np,(t8.trans t14.tups).trans tl,by rw[HC nr];exact t14 _ _ r8,us8++[(d2,m.take i++[(P1.2.1,N1.2)]++w'.drop (i+1))],by rw[Hl,Ah];rfl,?_,λy hy=>?_⟩
     · rw[Ah,u8,Iw es,Ah,Bn];rfl
     · rcases As.mp hy with y1 | y1
       · exact((v8 y y1).same t14).keep tl
       · rw[Ae.mp y1];exact W14.keep tl
   · rintro σ H8 ⟨⟨y8',y9',rfl⟩,s8,t8,r8,us8,e8,u8,v8⟩;refine⟨⟨_,_,_,_,_,_,rfl⟩,s8,(t4.trans t7.tups).trans t8,us8,e8,?_,v8⟩;have et:ss.take (ss.map λx=>V.ref x.1).length=ss:=AH (by simp);rw[u8,et,CZ,D4];congr 1;rw[CC,Fh,Ch];unfold IK;rw[ewP,emP];show _=(IX P1.2.2 M1.2.2).map _;rw[←f7,BP];rfl
 · rintro σ H3 ⟨⟨y4,y5,y6,y7,y8,y9,rfl⟩,s3,t3,us,e3,u3,v3⟩;rw[Ab,lws] at u3;refine⟨_,rfl,q pr _ np s3 ?_ ?_⟩
   · rw[e1];exact⟨us,u3,e3,v3⟩
   · rw[e1];exact RV kw ko im ap h1
theorem Yy(F:Fun K "parts_beside" "parts_beside" N2 f fd)(GH:Γ15 P w K mg base):FnOk P w K mg base HJ 4 f fd ["wish","others"] (QR):=by
 refine F.ok Gm (λvs H Q E h=>?_) (λcdv A outer s H vs Q E hr h=>?_)
 · obtain⟨a,l,w',os,rfl,hw,kw,lw,hl,lo,lx,q⟩:=h;rfl
 obtain⟨a,l,w',os,rfl,hw,kw,lw,hl,lo,lx,q⟩:=h;refine⟨_,(Hq (HB (i:=2) Gm.nd rfl (Or.inl rfl) (Je (Hf (pv 0) Hg)))
  (Hq (JG BJ rfl (Jk (pv 1)) (HA (i:=3) Gm.nd rfl (Or.inr rfl)) (Hw (Ws (N':=["part","smaller","other"]) (js:=[none,none,some 3]) (i:=2) Gm.nd rfl (Or.inl rfl) rfl (IH (N:=["wish","others","parts","other"]) (outer:=Hy N2) (by decide+kernel)) (Jk (pv 2)) (λ_ _ _ _ _=>(HA (i:=0) M4 rfl (Or.inl rfl))) (λ_ _ _ _ _=>Jg) (λ_ _ _ _ _=>(Vn K rfl (Hz GH (hr.mono (by decide)) rfl (Hf (pv 0) (Hf (pv 2) Hg))))) (λ_ _ _ _ _=>(HA (i:=1) M4 rfl (Or.inl rfl))) (λ_ _ _ _ _=>Jg) (λ_ _ _ _ _=>(pv 1)))))
  (Hw (HF (pv 2))))),?_⟩
 refine⟨_,rfl,JU,λr0 hr0=>?_⟩;have s1:=Hx hr0 (.lst [V.ref a]);have e1:(Hh H r0 (.lst [V.ref a])) r0=some (.lst [V.ref a]):=Hl;generalize Hh H r0 (.lst [V.ref a])=H1 at*;have hl1:=hl.same s1;refine⟨_,rfl,l,rfl,⟨_,SqL.of hl1.at'⟩,Nb (K:=K) (a:=l) (xs:=os.map λx=>V.ref x.1) (λi σ H'=>(∃r y3,σ=[some (.ref a),some (.ref l),some (.ref r),y3]∧Lw H' r (Hn w' ((os.map (·.2)).take i)))∧Same H H'∧AllOk w' ((os.map (·.2)).take i) (Hn w' ((os.map (·.2)).take i))) ⟨⟨r0,none,rfl,[(a,w')],rfl,e1,λx hx=>by rw[Ae.mp hx];exact hw.same s1⟩,s1,QC kw⟩ (λi σ H' _ ⟨_,z,_⟩=>SqL.of (z _ _ hl.at')) ?_ ?_⟩
 · rintro i x σ H2 hx ⟨⟨r,y3,rfl,qs,q1,q2,q3⟩,s2,A2⟩;obtain⟨O1,ex,rfl⟩:=HR hx;have hm:=Ak ex;have eo:(os.map (·.2))[i]?=some O1.2:=by rw[Af,ex];rfl
   have li:i<7:=by have:=(An.mp ex).1;omega
   have okq:∀x∈qs,WOk x.2∧x.2.length≤3:=λx hx=>by obtain⟨a1,a2⟩:=A2.ok x.2 (by rw[←q1];exact AC hx);have:=congrArg Be a2;simp only[Ab] at this;exact⟨a1,by omega⟩
   have lq:qs.length≤7^7:=by have h1:=A2.len;rw[←q1,Ab,A5,Ab] at h1;exact AT h1 (En (by decide) (by omega))
   by_cases hb:∀x∈qs,OneOk x.2 O1.2 (one x.2 O1.2)
   · refine⟨_,rfl,r,rfl,⟨_,SqL.of q2⟩,λp hp=>?_⟩;refine W0 (cap:=[some (.ref O1.1)]) qs (λp=>one p O1.2) (SqL.of q2) hp rfl (λx hx=>by have h1:=(hb x hx).len;have h2:=(okq x hx).2;omega) lq q3 (λx hx y H' R s' hR=>?_) (λu v H' R h=>⟨_,rfl,h⟩) λH3 zs s3 z1 z2 z3=>?_
     · refine⟨_,rfl,_,rfl,x.1,O1.1,x.2,O1.2,rfl,(q3 x hx).same s',(hl.ok O1 hm).1.same (s2.trans s'),(okq x hx).1,(hl.ok O1 hm).2,by have:=(okq x hx).2;omega,lx O1 hm,λrr H4 nr s4 ps ok=>?_⟩;obtain⟨rs,r1,r2,r3⟩:=ps;exact⟨rr,rfl,⟨_,SqL.of r2⟩,hR rr rs H4 nr s4 r2 r1 r3⟩
     · have e3:zs.map (·.2)=Hn w' ((os.map (·.2)).take (i+1)):=by
        rw[z1,Iw eo,Ml,←q1,List.flatMap_map]
       refine⟨⟨p,_,rfl,zs,e3,z2,z3⟩,s2.trans s3,?_⟩;rw[Iw eo,Ml];refine Ri A2 lw λp hp=>?_;rw[←q1] at hp;obtain⟨x,hx,rfl⟩:=AM.mp hp;exact hb x hx
   · exact absurd (λx hx=>Ov (okq x hx).1 (hl.ok O1 hm).2) hb
 · rintro σ H2 ⟨⟨r,y3,rfl,P2⟩,s2,A2⟩;rw[Ab,AH (by simp)] at A2;rw[Ab,AH (by simp)] at P2;exact⟨_,rfl,q r _ s2 P2 A2⟩
theorem Ya(F:Fun K "fields_of" "fields_of" N7 f fd)  :FnOk P w K mg base HJ 1 f fd ["wishes"] (SH):=by
 refine F.ok Yg (λvs H Q E h=>?_) (λcdv A outer s H vs Q E hr h=>?_)
 · obtain⟨l,ws,fs,rfl,hw,lf,hin,q⟩:=h;rfl
 obtain⟨l,ws,fs,rfl,hw,lf,hin,q⟩:=h;refine⟨_,(Hw (HF (WM (N':=["wish","field","low","high"]) (js:=[none,none,none,none]) rfl B.sorted_ rfl (IH (N:=["wishes"]) (outer:=Hy N7) (by decide+kernel)) (Jk (pv 0)) (λ_ _ _ _ _=>(HA (i:=0) K3 rfl (Or.inl rfl))) (λ_ _ _ _ _=>Jg) (λ_ _ _ _ _=>(Uj K rfl (pv 0))) (λ_ _ _ _ _=>(Mb K rfl (n:=3) rfl (HG (HA (i:=1) K3 rfl (Or.inl rfl)) (HG (HA (i:=2) K3 rfl (Or.inl rfl)) (HG (HA (i:=3) K3 rfl (Or.inl rfl)) IW))))) (λ_ _ _ _ _=>Jg) (λ_ _ _ _ _=>(pv 1))))),?_⟩;refine⟨_,rfl,l,rfl,⟨_,SqL.of hw.at'⟩,?_⟩;refine WT ws fs (SqL.of hw.at') (λx hx=>(hw.ok x hx).1) hin lf rfl (λx hx y1 y2 y3 R h1 h2=>⟨_,rfl,x.1,rfl,h1,h2⟩) (λx0 y1 y2 y3 p R h1 h2=>⟨p.1,_,rfl,SqT.of h1,rfl,_,_,rfl,_,_,rfl,_,_,rfl,rfl,h2⟩) (λx0 y2 y3 f R h=>⟨_,rfl,h⟩) λks nd l6 mem=>?_;exact⟨by omega,λp ms mp mn so hp=>q p ms _ (Hx hp _) hp Hl mn so λf=>(mp.mem_iff).trans (mem f)⟩
theorem X_(F:Fun K "check_few" "check_few" OQ f fd)  :FnOk P w K mg base HJ 1 f fd ["wishes","fields"] (Qc):=by
 refine F.ok Yf (λvs H Q E h=>?_) (λcdv A outer s H vs Q E hr h=>?_)
 · obtain⟨l,f',xs,ys,rfl,hl,hf,lx,ly,q⟩:=h;rfl
 obtain⟨l,f',xs,ys,rfl,hl,hf,lx,ly,q⟩:=h;refine⟨_,(Hq (Ia (Io L1 (HK IM rfl B.len_ IC (Hf (pv 0) Hg)) (MZ (v:= .int 7) rfl qMW' ⟨_,rfl⟩) (Ih _)) (Hw Mk) Ig)
  (Hw (Ia (Io L1 (HK IM rfl B.len_ IC (Hf (pv 1) Hg)) (MZ (v:= .int 3) rfl qMF' ⟨_,rfl⟩) (Ih _)) (Hw Mk) Ig))),?_⟩
 refine⟨_,rfl,l,_,rfl,.inl (SqL.of hl),_,_,rfl,rfl,_,rfl,HI (λh=>absurd (of_decide_eq_true h) (by omega)) (λ_=>?_)⟩;exact⟨_,rfl,f',_,rfl,.inl (SqL.of hf),_,_,rfl,rfl,_,rfl,HI (λh=>absurd (of_decide_eq_true h) (by omega)) (λ_=>q)⟩
theorem Yl(F:Fun K "how_many_of" "how_many_of" O_ f fd)(GI:Γ4 P w K mg base):FnOk P w K mg base HJ 6 f fd ["wish"] (QO):=by
 refine F.ok Gn (λvs H Q E h=>?_) (λcdv A outer s H vs Q E hr h=>?_)
 · obtain⟨a,w',rfl,hw,wok,hb,q⟩:=h;rfl
 obtain⟨a,w',rfl,hw,wok,hb,q⟩:=h;refine⟨_,(Hq (HB (i:=1) Gn.nd rfl (Or.inl rfl) Hk)
  (Hq (JG BJ rfl (Ku (pv 0)) (Jq rfl (HG (HA (i:=2) Gn.nd rfl (Or.inl rfl)) (HG (HA (i:=3) Gn.nd rfl (Or.inl rfl)) (HG (HA (i:=4) Gn.nd rfl (Or.inl rfl)) IW)))) (Hq (HB (i:=5) Gn.nd rfl (Or.inl rfl) (Hz GI (hr.mono (by decide)) rfl (Hf (Ir (Hf (pv 3) (Hf (pv 4) Hg))) Hg)))
  (Hq (Ia (Jj (J9 (pv 5))) (Hw (HF IY)) Ig)
  (Hw (UM (i:=1) Gn.nd rfl (Or.inl rfl) (pv 5) Ti)))))
  (Hw (HF (pv 1))))),?_⟩
 obtain⟨ps,rfl,hA,hP⟩:=hw;refine⟨_,rfl,a,rfl,⟨_,SqT.of hA⟩,Ob (K:=K) (a:=a) (xs:=ps.map λp=>V.ref p.1) (λi σ H'=>(∃y2 y3 y4 y5,σ=[some (.ref a),some (.int (Jd ((ps.map (·.2)).take i))),y2,y3,y4,y5])∧Same H H'∧Ib ((ps.map (·.2)).take i)=true) ⟨⟨none,none,none,none,rfl⟩,Same.refl _,rfl⟩ (λi σ H' _ ⟨_,s,_⟩=>s.seqT (SqT.of hA)) ?_ ?_⟩
 · rintro i x σ H' hx ⟨⟨y2,y3,y4,y5,rfl⟩,s,hb'⟩;obtain⟨P1,e1,rfl⟩:=HR hx;have hm:=Ak e1;have ew:(ps.map (·.2))[i]?=some P1.2:=by rw[Af,e1];rfl
   refine⟨P1.1,_,rfl,SqT.of (s _ _ (hP P1 hm)),rfl,_,_,rfl,_,_,rfl,_,_,rfl,rfl,?_⟩;refine⟨_,rfl,_,rfl,Jp,λu hu=>?_⟩;have su:=Hx hu (.tup [eV P1.2.2.1,eV P1.2.2.2]);have mP:=AC (f:=(·.2)) hm;have le1:=(wok.ok P1.2 mP).2;have hb1:=hb P1.2 mP;refine⟨.ref u,P1.2.2.1,P1.2.2.2,rfl,⟨u,rfl,Hl⟩,le1,?_⟩;have out:Iy P1.2.2=false→Q .non (Hh H' u (.tup [eV P1.2.2.1,eV P1.2.2.2])):=λh=>by
    have e:Iu (ps.map (·.2))=none:=by unfold Iu;rw[if_neg];intro z;rw[AI.mp z P1.2 mP] at h;cases h
    rw[e] at q;exact q _ (s.trans su)
   obtain⟨pa,f',lo,hi⟩:=P1;dsimp only at*;cases lo with
   | none=>exact⟨_,rfl,_,rfl,Hr (out rfl)⟩
   | some l'=>
    cases hi with
    | none=>exact⟨_,rfl,_,rfl,Hr (out rfl)⟩
    | some h'=>
     have hb2:=hb1 l' h' rfl;refine⟨_,rfl,_,rfl,Hs ⟨_,rfl,_,rfl,_,_,rfl,rfl,.inr hb2,⟨some (.str f'),some (.int l'),some (.int h'),some (.int (h' - l'+1)),?_⟩,s.trans su,?_⟩⟩
     · rw[Iw ew,SE];rfl
     · rw[Iw ew];unfold Ib at*;rw[List.all_append,hb'];rfl
 · rintro σ H' ⟨⟨y2,y3,y4,y5,rfl⟩,s,hb'⟩;rw[Ab,AH (by simp)] at hb';rw[Ab,AH (l:=ps.map (·.2)) (by simp)];have e:Iu (ps.map (·.2))=some (Jd (ps.map (·.2))):=by unfold Iu;rw[if_pos hb']
   rw[e] at q;exact⟨_,rfl,q _ s⟩
theorem Yj(F:Fun K "has_no_more" "has_no_more" Nx f fd)  :FnOk P w K mg base HJ 1 f fd ["wish","fields"] (R4):=by
 refine F.ok Yo (λvs H Q E h=>?_) (λcdv A outer s H vs Q E hr h=>?_)
 · obtain⟨a,l,w',fs,rfl,hw,wok,hl,q⟩:=h;rfl
 obtain⟨a,l,w',fs,rfl,hw,wok,hl,q⟩:=h;refine⟨_,(Hw (HF (HK (Lc rfl) rfl B.all_ KW (Hf (Jw (N':=["field","low","high","fields"]) (js:=[none,none,none,some 1]) rfl (IH (N:=["wish","fields"]) (outer:=Hy Nx) (by decide+kernel)) (Ku (pv 0)) (λ_ _ _ _ _=>(Mb K rfl (n:=3) rfl (HG (HA (i:=0) Lp rfl (Or.inl rfl)) (HG (HA (i:=1) Lp rfl (Or.inl rfl)) (HG (HA (i:=2) Lp rfl (Or.inl rfl)) IW))))) (λ_ _ _ _ _=>Jg) (λ_ _ _ _ _=>(LA (Tu K rfl) (pv 0) (pv 3) (by with_unfolding_all rfl)))) Hg)))),?_⟩;obtain⟨ps,rfl,hA,hP⟩:=hw;refine⟨_,rfl,a,rfl,⟨_,SqT.of hA⟩,λp hp=>?_⟩;have lp:ps.length≤100:=by have:=wok.len;rw[Ab] at this;exact this
 refine NW (xs:=ps.map λp=>V.ref p.1) (λi σ' ys H'=>(∃v1 v2 v3,σ'=[v1,v2,v3,some (.ref l)])∧Same H H'∧H' p=some (.lst ys)∧ys=(((ps.map (·.2)).take i).map λp=>decide (p.1∈fs)).map V.bl) ⟨⟨none,none,none,rfl⟩,Hx hp _,Hl,rfl⟩ ?_ ?_ ?_
 · rintro i σ' ys H' hi ⟨_,s,h1,h3⟩;refine⟨s.seqT (SqT.of hA),h1,?_⟩;rw[h3,Ab,Ab,A5,Ab];exact IB (by omega)
 · rintro i x σ' ys H' N hx ⟨⟨v1,v2,v3,rfl⟩,s,h1,h3⟩ hN;obtain⟨P1,e1,rfl⟩:=HR hx;have hm:=Ak e1;have ew:(ps.map (·.2))[i]?=some P1.2:=by rw[Af,e1];rfl
   refine⟨P1.1,_,rfl,SqT.of (s _ _ (hP P1 hm)),rfl,_,_,rfl,_,_,rfl,_,_,rfl,rfl,?_⟩;refine⟨_,rfl,_,rfl,l,_,rfl,.inl (SqL.of (s _ _ hl)),rfl,Sj fs,?_⟩;dsimp only;rw[if_neg Ax,Ol];refine⟨h1,hN _ _ _ ⟨⟨_,_,_,rfl⟩,JA s hp,Hl,?_⟩⟩;rw[h3,Iw ew,Ah,Ah];rfl
 · rintro σ' ys H' ⟨_,s,h1,h3⟩;rw[Ab,AH (by simp)] at h3;refine⟨p,_,rfl,SqL.of (by rw[h1,h3]),?_⟩;rw[Oh];exact q _ s
theorem Yb(F:Fun K "filled_up" "filled_up" N8 f fd)(GD:Γ12 P w K mg base):FnOk P w K mg base HJ 2 f fd ["wish","fields"] (Qu):=by
 refine F.ok Go (λvs H Q E h=>?_) (λcdv A outer s H vs Q E hr h=>?_)
 · obtain⟨a,l,w',fs,rfl,hw,wok,hl,l3,q⟩:=h;rfl
 obtain⟨a,l,w',fs,rfl,hw,wok,hl,l3,q⟩:=h;refine⟨_,(Hq (HB (i:=2) Go.nd rfl (Or.inr rfl) (Hz GD (hr.mono (by decide)) rfl (Hf (pv 0) Hg)))
  (Hw (HF (Lf Nv rfl B.tuple_ Lb (Hf (Jw (N':=["field","spans"]) (js:=[none,some 2]) rfl (IH (N:=["wish","fields","spans"]) (outer:=Hy N8) (by decide+kernel)) (Jk (pv 1)) (λ_ _ _ _ _=>(HA (i:=0) MC rfl (Or.inl rfl))) (λ_ _ _ _ _=>Jg) (λ_ _ _ _ _=>(Hu JN (Ir (Hf (pv 0) Hg)) (Rx (LP hr) (pv 1) (pv 0) (Ir (Hf IY (Hf IY Hg))) ⟨rfl,rfl,rfl,rfl⟩)))) Hg))))),?_⟩
 refine⟨_,rfl,a,w',rfl,hw,wok,λd H1 s1 n1 D1=>?_⟩;obtain⟨bs,b1,b2,b3⟩:=D1;have hl1:=s1 _ _ hl;refine⟨_,rfl,l,rfl,⟨_,SqL.of hl1⟩,λp hp=>?_⟩;refine Ks (xs:=fs.map V.str) (λi σ' ys H'=>(∃v,σ'=[v,some (.ref d)])∧Same H1 H'∧H' p=some (.lst ys)∧∃ts:List (Addr×WP),ys=ts.map (λt=>V.ref t.1)∧ts.map (·.2)=IL (fs.take i) w'∧∀t∈ts,H' t.1=some (.tup [.str t.2.1,eV t.2.2.1,eV t.2.2.2])) ⟨⟨none,rfl⟩,Hx hp _,Hl,[],rfl,rfl,λt ht=>by simp at ht⟩ ?_ ?_ ?_
 · rintro i σ' ys H' hi ⟨_,s,h1,ts,rfl,h2,_⟩;refine⟨s.seq (SqL.of hl1),h1,?_⟩;have:=congrArg Be h2;unfold IL at this;rw[Ab,Ab,A5] at this;rw[Ab];exact IB (by omega)
 · rintro i x σ' ys H2 N hx ⟨⟨v,rfl⟩,s2,h1,ts,rfl,h2,h3⟩ hN;rw[Af] at hx;cases e1:fs[i]? with
   | none=>rw[e1] at hx;cases hx
   | some fi=>
    rw[e1] at hx;obtain rfl:V.str fi=x:=AB hx;refine⟨_,rfl,JU,λc1 hc1=>?_⟩;have s3:=Hx hc1 (.tup [V.str fi]);have e3:(Hh H2 c1 (.tup [V.str fi])) c1=some (.tup [V.str fi]):=Hl;generalize Hh H2 c1 (.tup [V.str fi])=H3 at*;have k1:=s3 _ _ (s2 _ _ b1);refine⟨_,rfl,d,rfl,.inl ⟨J2 bs,.inl k1⟩,_,rfl,Jp,λv' hv=>?_⟩;have sv:=Hx hv (.tup [V.non,V.non]);have ev:(Hh H3 v' (.tup [V.non,V.non])) v'=some (.tup [V.non,V.non]):=Hl;have k1v:=sv _ _ k1;generalize Hh H3 v' (.tup [V.non,V.non])=H4 at*;have gd:=DGet.k (k:=Sum.inr fi) k1v;rw[Lj] at gd;have kf:=b3 fi;obtain⟨sp,esp,tt,ett,htt⟩:∃sp:HS,(Hv w' fi).getD (none,none)=sp∧∃tt,(Ij bs fi).getD (.ref v')= .ref tt∧H4 tt=some (.tup [eV sp.1,eV sp.2]):=by
     cases hs:Hv w' fi with
     | none=>rw[hs] at kf;rw[show Ij bs fi=none from kf];exact⟨(none,none),rfl,v',rfl,ev⟩
     | some sp=>rw[hs] at kf;obtain⟨t,z1,z2⟩:=kf;rw[z1];exact⟨sp,rfl,t,rfl,sv _ _ (s3 _ _ (s2 _ _ z2))⟩
    refine⟨_,gd,?_⟩;rw[ett];refine⟨c1,tt,_,_,rfl,rfl,sv _ _ e3,htt,(by simp[sizeLine_eq]),λc3 H5 s5 e5=>?_⟩;have s25:=s3.trans (sv.trans s5);have h5:=s25 _ _ h1;have tl:=Kc (o:= .lst (ts.map (λq=>V.ref q.1)++[V.ref c3])) h5;refine⟨h5,hN _ _ _ ⟨⟨_,rfl⟩,JA (s2.trans s25) hp,Hl,ts++[(c3,fi,sp)],by rw[Ah];rfl,?_,λt ht=>?_⟩⟩
    · rw[Ah,h2,Iw e1];unfold IL;rw[Ah];congr 1;show [(fi,sp)]=[(fi,(Hv w' fi).getD (none,none))];rw[esp]
    · rcases As.mp ht with z | z
      · exact tl _ _ (s25 _ _ (h3 t z))
      · rw[Ae.mp z];exact tl _ _ (by rw[e5];rfl)
 · rintro σ' ys H2 ⟨_,s2,h1,ts,rfl,h2,h3⟩;rw[Ab,BL] at h2;refine⟨p,_,rfl,.inl ⟨SqL.of h1,λt ht=>?_⟩⟩;have s3:=Hx ht (.tup (ts.map λt=>V.ref t.1));exact q _ _ (s1.trans (s2.trans s3)) ⟨ts,h2,Hl,λx hx=>s3 _ _ (h3 x hx)⟩
theorem YC(F:Fun K "how_many_wanted" "how_many_wanted" Mq f fd)(GJ:Γ21 P w K mg base)(GK:Γ20 P w K mg base)(GL:Γ19 P w K mg base)(GM:Γ16 P w K mg base):FnOk P w K mg base HJ 7 f fd ["wishes","fields"] (R7):=by
 refine F.ok Gp (λvs H Q E h=>?_) (λcdv A outer s H vs Q E hr h=>?_)
 · obtain⟨l,f,ws,fs,lo,sz,m,rfl,hw,l7,hf,tf,gk,gw,q⟩:=h;rfl
 obtain⟨l,f,ws,fs,lo,sz,m,rfl,hw,l7,hf,tf,gk,gw,q⟩:=h;refine⟨_,(Hq (Nc (N':=["wish","fields"]) (js:=[none,some 1]) (i:=2) Gp.nd rfl (Or.inl rfl) rfl (IH (N:=["wishes","fields","filled","numbers","at","wish"]) (outer:=Hy Mq) (by decide+kernel)) (Jk (pv 0)) (λ_ _ _ _ _=>(HA (i:=0) MB rfl (Or.inl rfl))) (λ_ _ _ _ _=>LF (JD (Hz GK (hr.mono (by decide)) rfl (Hf (pv 0) (Hf (pv 1) Hg))))) (λ_ _ _ _ _=>(Hz GJ (hr.mono (by decide)) rfl (Hf (pv 0) (Hf (pv 1) Hg)))))
  (Hq (HB (i:=3) Gp.nd rfl (Or.inl rfl) (Je Hg))
  (Hq (JG BJ rfl (Ui rfl B.enumerate_ (Hf (pv 2) Hg)) (Jq rfl (HG (HA (i:=4) Gp.nd rfl (Or.inl rfl)) (HG (HA (i:=5) Gp.nd rfl (Or.inl rfl)) IW))) (Hw (Kf (KA BY PySem.F.slot_list_extend PySem.F.type_list_extend Wl (pv 3) (Hf (Jw (N':=["part"]) (js:=[none]) rfl (IH (N:=["wishes","fields","filled","numbers","at","wish"]) (outer:=Hy Mq) (by decide+kernel)) (Jk (Hz GM (hr.mono (by decide)) rfl (Hf (pv 5) (Hf (Iz Kg (pv 2) I0 (IA (pv 4))) Hg)))) (λ_ _ _ _ _=>(HA (i:=0) M5 rfl (Or.inl rfl))) (λ_ _ _ _ _=>Jg) (λ_ _ _ _ _=>(Hz GL (hr.mono (by decide)) rfl (Hf (pv 0) Hg)))) Hg)))))
  (Hw (HF (Mj (Io RW IY (pv 3) (by with_unfolding_all rfl)) IY (HK (VP rfl) rfl B.sum_ TZ (Hf (pv 3) Hg)))))))),?_⟩
 refine⟨_,rfl,l,rfl,⟨_,SqL.of hw.at'⟩,λfr hfr=>?_⟩;refine Ks (xs:=ws.map λx=>V.ref x.1) (λi σ' ys H'=>(∃v,σ'=[v,some (.ref f)])∧Same H H'∧H' fr=some (.lst ys)∧∃qs:List (Addr×List WP),ys=qs.map (λx=>V.ref x.1)∧qs.map (·.2)=(((ws.map (·.2)).take i).filter λx=>Ji fs x).map (λx=>IL fs x)∧qs.length≤i∧∀q∈qs,WishAt H' q.1 q.2) ⟨⟨none,rfl⟩,Hx hfr _,Hl,[],rfl,rfl,Ag _,λt ht=>by simp at ht⟩ ?_ ?_ ?_
 · rintro i σ' ys H' hi ⟨_,s,h1,qs,rfl,h2,h3,_⟩;rw[Ab] at hi;refine⟨s.seq (SqL.of hw.at'),h1,?_⟩;rw[Ab];exact IB (by omega)
 · rintro i x σ' ys H2 N hx ⟨⟨v,rfl⟩,s2,h1,qs,rfl,h2,h3,h4⟩ hN;obtain⟨X1,e1,rfl⟩:=HR hx;have ew:(ws.map (·.2))[i]?=some X1.2:=by rw[Af,e1];rfl
   obtain⟨x1,x2⟩:=hw.ok X1 (Ak e1);refine⟨_,rfl,_,rfl,X1.1,f,X1.2,fs,rfl,x1.same s2,x2,s2 _ _ hf,λH3 s3=>⟨_,rfl,?_⟩⟩;have st:(((ws.map (·.2)).take (i+1)).filter λx=>Ji fs x).map (λx=>IL fs x)=(((ws.map (·.2)).take i).filter λx=>Ji fs x).map (λx=>IL fs x)++(if Ji fs X1.2=true then [IL fs X1.2] else []):=by
    rw[Iw ew,C3,Ah,Dj]
    split<;>rfl
   cases c:Ji fs X1.2 with
   | false=> rw[c] at st;exact Hs (hN _ _ _ ⟨⟨_,rfl⟩,s2.trans s3,s3 _ _ h1,qs,rfl,by rw[st,h2];simp,by omega,λq hq=>(h4 q hq).same s3⟩)
   | true=>
    rw[c] at st;refine Hr ⟨_,rfl,_,rfl,X1.1,f,X1.2,fs,rfl,x1.same (s2.trans s3),x2,(s2.trans s3) _ _ hf,tf.len,λr H4 s4 W4=>?_⟩;have s34:=s3.trans s4;have h5:=s34 _ _ h1;have tl:=Kc (o:= .lst (qs.map (λq=>V.ref q.1)++[V.ref r])) h5;refine⟨h5,hN _ _ _ ⟨⟨_,rfl⟩,JA (s2.trans s34) hfr,Hl,qs++[(r,IL fs X1.2)],by rw[Ah];rfl,by rw[st,Ah,h2];rfl,by rw[Au];simp;omega,λq hq=>?_⟩⟩;rcases As.mp hq with z | z
    · exact((h4 q z).same s34).keep tl
    · rw[Ae.mp z];exact W4.keep tl
 rintro σ' ys H1 ⟨_,s1,h1,qs,rfl,h2,h3,h4⟩;rw[Ab] at h3;rw[Ab,AH (by simp)] at h2;have okq:∀q∈qs,WOk q.2∧q.2.length≤3∧Iv lo sz m q.2:=λq hq=>by have:q.2∈qs.map (·.2):=AC hq;rw[h2] at this;obtain⟨y,hy,e⟩:=AM.mp this;obtain⟨x,hx,rfl⟩:=AM.mp (Dp.mp hy).1;rw[←e];refine⟨UG tf.len tf.ok tf.asc (hw.ok x hx).2,?_,Vz (gw x hx)⟩;unfold IL;rw[Ab];exact tf.len
 refine⟨K1,λnr hnr=>?_⟩;have s2:=Hx hnr (.lst []);have e2:(Hh H1 nr (.lst [])) nr=some (.lst []):=Hl;have h12:=s2 _ _ h1;have h42:∀q∈qs,WishAt (Hh H1 nr (.lst [])) q.1 q.2:=λq hq=>(h4 q hq).same s2;have nfr:nr≠fr:=λe=>by rw[e,h1] at hnr;cases hnr
 have np:H nr=none:=s1.free hnr;generalize Hh H1 nr (.lst [])=H2 at*;obtain⟨g1,g2,g3⟩:=gk;have pcount:∀n,n≤qs.length→((Bf n).flatMap λi=>Hn ((qs.map (·.2)).getD i []) ((qs.map (·.2)).take i)).length≤n*7^7:=by
  intro n
  induction n with
  | zero=>intro _;simp
  | succ n ih=>
   intro hn;rw[CZ,D4,Au];have:=ih (by omega);have e0:qs[n]?=some qs[n]:=Aq (by omega);have e1:(qs.map (·.2)).getD n []=qs[n].2:=by rw[Bi,Af,e0];rfl
   obtain⟨k1,k2,_⟩:=okq qs[n] (Dv _);have A:=LY k1 k2 (os:=(qs.map (·.2)).take n) λo ho=>by obtain⟨y,hy,rfl⟩:=AM.mp (AO ho);exact(okq y hy).1
   have h5:=A.len;have h6:(7:Nat)^((qs.map (·.2)).take n).length≤7^7:=En (by decide) (by rw[A5,Ab];omega);rw[CC,Fh,Ch,e1];omega
 refine⟨_,rfl,fr,rfl,⟨_,SqL.of h12⟩,UY (K:=K) (a:=fr) (xs:=qs.map λx=>V.ref x.1) (λi σ H'=>(∃y4 y5,σ=[some (.ref l),some (.ref f),some (.ref fr),some (.ref nr),y4,y5])∧Same H H'∧Tups H2 H'∧H' fr=some (.lst (qs.map λx=>V.ref x.1))∧H' nr=some (.lst ((((Bf i).flatMap λi=>Hn ((qs.map (·.2)).getD i []) ((qs.map (·.2)).take i)).map Iu).map eV))) ⟨⟨none,none,rfl⟩,s1.trans s2,λ_ _ z=>z,h12,e2⟩ (λi σ H' _ ⟨_,_,_,z,_⟩=>SqL.of z) ?_ ?_⟩
 · rintro i x z σ H3 hx hz ⟨⟨y4,y5,rfl⟩,s3,t3,e3,n3⟩;obtain⟨X1,e1,rfl⟩:=HR hx;have li:=(An.mp e1).1;have mX:=Ak e1;obtain⟨k1,k2,k3⟩:=okq X1 mX;have s4:=Hx hz (.tup [V.int (i:Int),V.ref X1.1]);have e4:(Hh H3 z (.tup [V.int (i:Int),V.ref X1.1])) z=some (.tup [V.int (i:Int),V.ref X1.1]):=Hl;have t4:=t3.trans s4.tups;have f4:=s4 _ _ e3;have n4:=s4 _ _ n3;have S4:=s3.trans s4;generalize Hh H3 z (.tup [V.int (i:Int),V.ref X1.1])=H4 at*;refine⟨z,_,rfl,SqT.of e4,rfl,_,_,rfl,_,_,rfl,rfl,?_⟩;refine⟨_,rfl,.inl ⟨rfl,_,SqL.of n4⟩,?_⟩;refine⟨_,rfl,_,rfl,_,rfl,_,rfl,fr,_,rfl,SqL.of f4,λp1 hp1=>?_⟩;rw[Md rfl,←CF];have s5:=Hx hp1 (.lst ((qs.take i).map λx=>V.ref x.1));have e5:(Hh H4 p1 (.lst ((qs.take i).map λx=>V.ref x.1))) p1=some (.lst ((qs.take i).map λx=>V.ref x.1)):=Hl;generalize Hh H4 p1 (.lst ((qs.take i).map λx=>V.ref x.1))=H5 at*;have W5:∀q∈qs,WishAt H5 q.1 q.2:=λq hq=>((h42 q hq).keep t4).same s5;have O5:WsAt H5 p1 (qs.take i):=⟨e5,λx hx=>⟨W5 x (AO hx),(okq x (AO hx)).1⟩,by rw[A5];omega⟩;refine⟨X1.1,p1,X1.2,qs.take i,rfl,W5 X1 mX,k1,k2,O5,by rw[A5];omega,λx hx=>AT (okq x (AO hx)).2.1 (by decide),λr H6 s6 P6 A6=>?_⟩;rw[CF] at P6 A6;have gp:=SA k3 (os:=(qs.map (·.2)).take i) λo ho=>by
    obtain⟨y,hy,rfl⟩:=AM.mp (AO ho);exact(okq y hy).2.2
   have eg:(qs.map (·.2)).getD i []=X1.2:=by rw[Bi,Af,e1];rfl
   have lpp:=A6.len;have l77:(7:Nat)^((qs.map (·.2)).take i).length≤7^7:=En (by decide) (by rw[A5,Ab];omega);generalize hpt:Hn X1.2 ((qs.map (·.2)).take i)=pts at*;obtain⟨us,u1,u2,u3⟩:=P6;have lus:us.length=pts.length:=by rw[←u1,Ab]
   refine⟨r,rfl,⟨_,SqL.of u2⟩,λcr hcr=>?_⟩;refine Ks (xs:=us.map λx=>V.ref x.1) (λj σ' ys H'=>(∃v,σ'=[v])∧Same H6 H'∧H' cr=some (.lst ys)∧ys=((pts.take j).map Iu).map eV) ⟨⟨none,rfl⟩,Hx hcr _,Hl,rfl⟩ ?_ ?_ ?_
   · rintro j σ' ys H' hj ⟨_,s,c1,c2⟩;refine⟨s.seq (SqL.of u2),c1,?_⟩;rw[c2,Ab,Ab,A5];exact BW (show _≤7^7 by omega) (by decide)
   · rintro j x σ' ys H7 N hx ⟨⟨v,rfl⟩,s7,c1,c2⟩ hN;obtain⟨U1,eu,rfl⟩:=HR hx;have ep:pts[j]?=some U1.2:=by rw[←u1,Af,eu];rfl
     have mp:=Ak ep;refine⟨_,rfl,U1.1,U1.2,rfl,(u3 U1 (Ak eu)).same s7,(A6.ok _ mp).1,λp hp l' h' e=>?_,λH8 s8=>?_⟩
     · have gq:=gp _ mp p hp;obtain⟨a1,a2,a3,a4⟩:=gq.low l' (by rw[e]);obtain⟨b1,b2,b3,b4⟩:=gq.high h' (by rw[e]);have c1':sz*a1≤sz*m:=CG (by omega) (by omega);have c2':sz*b1≤sz*m:=CG (by omega) (by omega);have c3':0≤sz*a1:=FI (by omega) a2;have c4':0≤sz*b1:=FI (by omega) b2;omega
     · refine⟨s8 _ _ c1,hN _ _ _ ⟨⟨_,rfl⟩,JA (s7.trans s8) hcr,Hl,?_⟩⟩;rw[c2,Iw ep,Ah,Ah];rfl
   · rintro σ' ys H7 ⟨_,s7,c1,rfl⟩;rw[Ab,lus,BL] at c1;have s47:=s5.trans (s6.trans s7);have n7:=s47 _ _ n4;have f7:=s47 _ _ f4;have pc:=pcount i (by omega);refine⟨nr,cr,_,_,rfl,rfl,n7,c1,?_,?_⟩
     · rw[Ab,Ab,Ab,Ab];refine AT (show _≤8*7^7 by omega) (by decide)
     · have tl:=Kc (o:= .lst ((((Bf i).flatMap λi=>Hn ((qs.map (·.2)).getD i []) ((qs.map (·.2)).take i)).map Iu).map eV++(pts.map Iu).map eV)) n7;refine⟨⟨_,_,rfl⟩,JA (S4.trans s47) np,(t4.trans s47.tups).trans tl,by rw[HC nfr.symm];exact f7,?_⟩;rw[Hl,CZ,D4,Ah,Ah,CC,Fh,Ch,eg,hpt]
 · rintro σ H3 ⟨⟨y4,y5,rfl⟩,s3,t3,e3,n3⟩;rw[Ab] at n3;have pe:((Bf qs.length).flatMap λi=>Hn ((qs.map (·.2)).getD i []) ((qs.map (·.2)).take i))=Ht (qs.map (·.2)):=by unfold Ht;rw[Ab]
   rw[pe] at n3;have em:Iq fs (ws.map (·.2))=Il (qs.map (·.2)):=by unfold Iq;rw[h2]
   rw[em] at q;obtain⟨w1,w2⟩:=V8 (Ht (qs.map (·.2)));refine⟨_,rfl,nr,_,rfl,.inl (SqL.of n3),rfl,V1 _,_,rfl,?_⟩;rw[if_neg Ax,Ro,w1];cases c:(Ht (qs.map (·.2))).all Ib with
   | false=>
    have:Il (qs.map (·.2))=none:=by unfold Il;rw[if_neg (by rw[c];exact Ax)]
    rw[this] at q;exact Hr (q _ s3)
   | true=>
    have:Il (qs.map (·.2))=some (((Ht (qs.map (·.2))).map Jd).sum):=by unfold Il;rw[if_pos c]
    rw[this] at q;rw[Sg _ (by rw[w1,c];rfl),w2 c] at n3;exact Hs ⟨_,rfl,nr,_,rfl,SqL.of n3,q _ s3⟩
theorem Y9(F:Fun K "is_list_of_fields" "is_list_of_fields" Mr f fd)(G8:Γ6 P w K mg base):FnOk P w K mg base HJ 2 f fd ["thing"] (QP):=by
 refine F.ok YA (λvs H Q E h=>?_) (λcdv A outer s H vs Q E hr h=>?_)
 · obtain⟨f,fs,rfl,hf,tf,q⟩:=h;rfl
 obtain⟨f,fs,rfl,hf,tf,q⟩:=h;refine⟨_,(Hq (Ia (PW.pt (KR (JH (JD (HK (Kj (n:="")) rfl B.isinstance_ Kk (Hf (pv 0) (Hf (Ke (v:= .ty "list") rfl B.list_ L_ rfl) Hg))))) (K_ (Io L1 (HK IM rfl B.len_ IC (Hf (pv 0) Hg)) (MZ (v:= .int 3) rfl qMF' ⟨_,rfl⟩) (Ih _))))) (Hw (HF K9)) Ig)
  (Hq (Ia (JH (JD (HK (Lc rfl) rfl B.all_ KW (Hf (Jw (N':=["field"]) (js:=[none]) rfl (IH (N:=["thing"]) (outer:=Hy Mr) (by decide+kernel)) (Jk (pv 0)) (λ_ _ _ _ _=>(HA (i:=0) MA rfl (Or.inl rfl))) (λ_ _ _ _ _=>Jg) (λ_ _ _ _ _=>(Hz G8 (hr.mono (by decide)) rfl (Hf (pv 0) Hg)))) Hg)))) (Hw (HF K9)) Ig)
  (Hw (HF (HK (Lc rfl) rfl B.all_ KW (Hf (Jw (N':=["ahead","behind"]) (js:=[none,none]) rfl (IH (N:=["thing"]) (outer:=Hy Mr) (by decide+kernel)) (Uk rfl B.zip_ (Hf (pv 0) (Hf (Iz Kg (pv 0) (IA Hk) I0) Hg))) (λ_ _ _ _ _=>(Mb K rfl (n:=2) rfl (HG (HA (i:=0) K4 rfl (Or.inl rfl)) (HG (HA (i:=1) K4 rfl (Or.inl rfl)) IW)))) (λ_ _ _ _ _=>Jg) (λ_ _ _ _ _=>(LA RY (pv 0) (pv 1) (Ih _)))) Hg)))))),?_⟩
 have l3:=tf.len;refine⟨_,rfl,_,"list","list",true,rfl,.lst hf,rfl,_,rfl,Hs ⟨_,rfl,f,_,rfl,.inl (SqL.of hf),_,_,rfl,rfl,_,rfl,HI (λh=>absurd (of_decide_eq_true h) (by rw[Ab];omega)) (λ_=>?_)⟩⟩;refine⟨_,rfl,f,rfl,⟨_,SqL.of hf⟩,λp hp=>?_⟩;refine Ks (xs:=fs.map V.str) (λi σ' ys H'=>(∃v,σ'=[v])∧Same H H'∧H' p=some (.lst ys)∧ys=((fs.take i).map λ_=>true).map V.bl) ⟨⟨none,rfl⟩,Hx hp _,Hl,rfl⟩ ?_ ?_ ?_
 · rintro i σ' ys H' hi ⟨_,s,h1,h2⟩;refine⟨s.seq (SqL.of hf),h1,?_⟩;rw[h2,Ab,Ab,A5];exact IB (by omega)
 · rintro i x σ' ys H2 N hx ⟨⟨v,rfl⟩,s2,h1,h2⟩ hN;rw[Af] at hx;cases e1:fs[i]? with
   | none=>rw[e1] at hx;cases hx
   | some fi=> rw[e1] at hx;obtain rfl:V.str fi=x:=AB hx;refine⟨_,rfl,fi,rfl,tf.ok fi (Ak e1),λH3 s3=>⟨s3 _ _ h1,hN _ _ _ ⟨⟨_,rfl⟩,JA (s2.trans s3) hp,Hl,?_⟩⟩⟩;rw[h2,Iw e1,Ah,Ah];rfl
 · rintro σ' ys H2 ⟨_,s2,h1,rfl⟩;refine⟨p,_,rfl,SqL.of h1,_,rfl,?_⟩;have:((fs.take (fs.map V.str).length).map λ_=>true).all id=true:=by rw[Oh];exact AI.mpr λ_ _=>rfl
   rw[this];refine Hs ?_;have hf2:=s2 _ _ hf;refine⟨_,rfl,_,rfl,_,rfl,f,_,rfl,SqL.of hf2,λp1 hp1=>?_⟩;rw[show HV (fs.map V.str) (some 1) none=(fs.map V.str).drop 1 from T_ _ 1,←D0];have s3:=Hx hp1 (.lst ((fs.drop 1).map V.str));have e3:(Hh H2 p1 (.lst ((fs.drop 1).map V.str))) p1=some (.lst ((fs.drop 1).map V.str)):=Hl;have hf3:=s3 _ _ hf2;generalize Hh H2 p1 (.lst ((fs.drop 1).map V.str))=H3 at*;refine⟨f,p1,rfl,⟨_,SqL.of hf3⟩,⟨_,SqL.of e3⟩,λc hc=>?_⟩;refine UK (n:=fs.length - 1) (xs:=fs.map V.str) (ys:=(fs.drop 1).map V.str) (by rw[Ab];omega) (by rw[Ab,BB];exact Ag _) (.inr (by rw[Ab,BB];exact Ag _)) (λi σ' ys H'=>(∃v w,σ'=[v,w])∧Same H3 H'∧H' c=some (.lst ys)∧ys=((Bf i).map λ_=>true).map V.bl) ⟨⟨none,none,rfl⟩,Hx hc _,Hl,rfl⟩ ?_ ?_ ?_
   · rintro i σ' zs H' hi ⟨_,s,c1,c2⟩;refine⟨s.seq (SqL.of hf3),s.seq (SqL.of e3),c1,?_⟩;rw[c2,Ab,Ab,CB];exact IB (by omega)
   · rintro i x y σ' zs H' r N hx hy hr' ⟨⟨v,w',rfl⟩,s,c1,c2⟩ hN;rw[Af] at hx hy;rw[DI,Fg] at hy;cases e1:fs[i]? with
     | none=>rw[e1] at hx;cases hx
     | some f1=>
      cases e2:fs[i+1]? with
      | none=>rw[e2] at hy;cases hy
      | some f2=>
       rw[e1] at hx;rw[e2] at hy;obtain rfl:V.str f1=x:=AB hx;obtain rfl:V.str f2=y:=AB hy;have s5:=Hx hr' (.tup [V.str f1,V.str f2]);have lt:f1.cps.toList<f2.cps.toList:=by have:=D9.mp tf.asc i (i+1) (An.mp e1).1 (An.mp e2).1 (by omega);rw[(An.mp e1).2,(An.mp e2).2] at this;exact this
       refine⟨r,_,rfl,SqT.of Hl,rfl,_,_,rfl,_,_,rfl,rfl,?_⟩;refine⟨_,rfl,_,rfl,_,_,rfl,rfl,?_⟩;refine⟨s5 _ _ c1,hN _ _ _ ⟨⟨_,_,rfl⟩,JA (s.trans s5) hc,Hl,?_⟩⟩;rw[c2,CZ,Ah,Ah,decide_eq_true lt];rfl
   · rintro σ' zs H' ⟨_,s,c1,rfl⟩;refine⟨c,_,rfl,SqL.of c1,?_⟩;have:((Bf (fs.length - 1)).map λ_=>true).all id=true:=by rw[Oh];exact AI.mpr λ_ _=>rfl
     rw[this];exact q _ (s2.trans (s3.trans s))
theorem Y5(F:Fun K "check_fields" "check_fields" OV f fd)(GN:Γ23 P w K mg base):FnOk P w K mg base HJ 3 f fd ["thing"] (Qt):=by
 refine F.ok Y0 (λvs H Q E h=>?_) (λcdv A outer s H vs Q E hr h=>?_)
 · obtain⟨f,fs,rfl,hf,tf,q⟩:=h;rfl
 obtain⟨f,fs,rfl,hf,tf,q⟩:=h;refine⟨_,(Hw (Ia (JH (JD (Hz GN (hr.mono (by decide)) rfl (Hf (pv 0) Hg)))) (Hw Mk) Ig)),?_⟩;exact⟨_,rfl,f,fs,rfl,hf,tf,λH1 s1=>⟨_,rfl,Hs (q H1 s1)⟩⟩
theorem YB(F:FunD K "how_many_pieces" NB f fd)(GO:Γ11 P w K mg base)(GP:Γ17 P w K mg base)(GQ:Γ18 P w K mg base)(GR:Γ22 P w K mg base)(GS:Γ24 P w K mg base):FnOk P w K mg base HJ 8 f fd ["wishes","fields"] (QQ):=by
 refine F.ok Gq (λvs H Q E h=>?_) (λcdv A outer s H vs Q E hr h=>?_)
 · obtain⟨l,v,ws,ns,fs,lo,sz,m,rfl,hw,l7,tn,hin,tf,hv,gk,gw,q⟩:=h;rfl
 obtain⟨l,v,ws,ns,fs,lo,sz,m,rfl,hw,l7,tn,hin,tf,hv,gk,gw,q⟩:=h;refine⟨_,(Hq (Kf (Hz GO (hr.mono (by decide)) rfl (Hf (pv 0) Hg)))
  (Hq (Ia (Jj (L9 (pv 1))) (Hw (Kf (Hz GS (hr.mono (by decide)) rfl (Hf (pv 1) Hg)))) Ig)
  (Hq (HB (i:=2) Gq.nd rfl (Or.inl rfl) (Hz GP (hr.mono (by decide)) rfl (Hf (pv 0) Hg)))
  (Hq (Kf (Hz GQ (hr.mono (by decide)) rfl (Hf (pv 0) (Hf (pv 2) Hg))))
  (Hw (HF (Hz GR (hr.mono (by decide)) rfl (Hf (pv 0) (Hf (Mj (Jj (J9 (pv 1))) (pv 2) (pv 1)) Hg))))))))),?_⟩
 refine⟨_,rfl,l,ws,rfl,hw,λH1 s1=>?_⟩;have hw1:=hw.same s1;unfold Qe;dsimp only;refine Kb (λσ' H'=>σ'=[some (.ref l),some v,none]∧Same H H') (λZ hZ=>?_) ?_
 · rcases hv with⟨rfl,_⟩ | ⟨f,rfl,hf⟩
   · exact⟨_,rfl,_,rfl,Hs (hZ _ _ ⟨rfl,s1⟩)⟩
   · exact⟨_,rfl,_,rfl,Hr ⟨_,rfl,f,fs,rfl,s1 _ _ hf,tf,λH2 s2=>hZ _ _ ⟨rfl,s1.trans s2⟩⟩⟩
 rintro σ' H2 ⟨rfl,s2⟩;have hw2:=hw.same s2;have n3:=tn.len;refine⟨_,rfl,l,ws,ns,rfl,hw2,by omega,hin,λfr ms H3 s3 nf e3 nd so mem=>?_⟩;have lm:ms.length≤ns.length:=Sh nd λf hf'=>by obtain⟨x,hx,hf2⟩:=(mem f).mp hf';obtain⟨p',hp',rfl⟩:=AM.mp hf2;exact hin x hx p' hp'
 have t3:=s2.trans s3;have hw3:=hw.same t3;refine⟨_,rfl,_,rfl,l,fr,_,_,rfl,hw3.at',e3,by rw[Ab];exact l7,by rw[Ab];omega,?_⟩;have fo:FieldsOf (ws.map (·.2)) ms:=⟨OF so nd,λf=>by
  rw[mem];constructor
  · rintro⟨x,hx,hf⟩;exact⟨x.2,AC hx,hf⟩
  · rintro⟨y,hy,hf⟩;obtain⟨x,hx,rfl⟩:=AM.mp hy;exact⟨x,hx,hf⟩⟩
 rcases hv with⟨rfl,fo'⟩ | ⟨f,rfl,hf⟩
 · have e:=fo.uniq fo';subst e;exact⟨_,rfl,_,rfl,_,rfl,Hr ⟨_,rfl,l,fr,ws,ms,lo,sz,m,rfl,hw3,l7,e3,tf,gk,gw,λH4 s4=>q _ (t3.trans s4)⟩⟩
 · exact⟨_,rfl,_,rfl,_,rfl,Hs ⟨_,rfl,l,f,ws,fs,lo,sz,m,rfl,hw3,l7,t3 _ _ hf,tf,gk,gw,λH4 s4=>q _ (t3.trans s4)⟩⟩
theorem XH(F:Fun K "_law_well" "_law_well" Mn f fd)  :FnOk P w K mg base HJ 1 f fd ["script"] (Qz K):=by
 refine F.ok Gr (λvs H Q E h=>?_) (λcdv A outer s H vs Q E hr h=>?_)
 · obtain⟨a,ns,rfl,hS,h63,q⟩:=h;rfl
 obtain⟨a,ns,rfl,hS,h63,q⟩:=h;refine⟨_,(Hq (Nc (N':=["cell"]) (js:=[none]) (i:=1) Gr.nd rfl (Or.inl rfl) rfl (IH (N:=["script","great","small","seed","number"]) (outer:=Hy Mn) (by decide+kernel)) (Jk (Iz Kg (pv 0) I0 (IA Hk))) (λ_ _ _ _ _=>(HA (i:=0) KI rfl (Or.inl rfl))) (λ_ _ _ _ _=>LF (Io TF (HK Oj rfl B.abs_ NQ (Hf (pv 0) Hg)) (Hu Le Hk Hk) (Ih _))) (λ_ _ _ _ _=>(Hu J_ (HK Oj rfl B.abs_ NQ (Hf (pv 0) Hg)) (Hu L8 (Hu Le Hk Hk) (Hu Le Hk Hk)))))
  (Hq (Nc (N':=["cell"]) (js:=[none]) (i:=2) Gr.nd rfl (Or.inl rfl) rfl (IH (N:=["script","great","small","seed","number"]) (outer:=Hy Mn) (by decide+kernel)) (Jk (Iz Kg (pv 0) I0 (IA Hk))) (λ_ _ _ _ _=>(HA (i:=0) KI rfl (Or.inl rfl))) (λ_ _ _ _ _=>LF (Io LS (HK Oj rfl B.abs_ NQ (Hf (pv 0) Hg)) (Hu Le Hk Hk) (Ih _))) (λ_ _ _ _ _=>(Hu J_ (pv 0) Hk)))
  (Hq (HB (i:=3) Gr.nd rfl (Or.inl rfl) (Hu Ip Hk (HK IM rfl B.len_ IC (Hf (pv 2) Hg))))
  (Hq (JG BJ rfl (Jk (pv 2)) (HA (i:=4) Gr.nd rfl (Or.inl rfl)) (Hw (HB (i:=3) Gr.nd rfl (Or.inl rfl) (Hu J_ (Hu Ip (Hu Ip (Hu L8 (pv 3) Hk) (Hu L8 (pv 4) Hk)) Hk) Hk))))
  (Hw (HF (Je (Hf (pv 1) (Hf (pv 2) (Hf (pv 3) (Hf Hk Hg))))))))))),?_⟩
 have cut:HV (ns.map V.int) none (some 63)=ns.map V.int:=by unfold HV;rw[show HT.sIx (ns.map V.int).length 0 none=0 from rfl,show HT.sIx (ns.map V.int).length (ns.map V.int).length (some 63)=min 63 (ns.map V.int).length from HT.sIx_nat _ _ 63];rw[FE];exact AH (by rw[Ab];omega)
 have m60:PZ (10^(60:Int).toNat) (10^(60:Int).toNat):=⟨by decide,by decide⟩;refine⟨_,rfl,_,rfl,a,_,rfl,hS,λp1 hp1=>⟨p1,rfl,⟨_,SqL.of Hl⟩,λp hp=>?_⟩⟩;refine Rf (cap:=[]) ns (λn=>(if n<0 then -n else n)%(10^(60:Int).toNat*10^(60:Int).toNat)) (λn=>decide ((10:Int)^(18:Int).toNat≤(if n<0 then -n else n))) (by omega) (SqL.of (by rw[Hl,cut])) hp ?_ ?_ ?_ ?_
 · rfl
 · exact λn H' R s r=>⟨_,rfl,_,rfl,_,_,rfl,rfl,JE (by decide) (by decide),_,_,rfl,rfl,_,rfl,r⟩
 · exact λn H' R s r=>⟨_,rfl,_,rfl,_,_,rfl,rfl,JE (by decide) (by decide),_,_,rfl,rfl,JE (by decide) (by decide),_,_,rfl,rfl,m60,_,_,rfl,rfl,(by show(0:Int)<10^(60:Int).toNat*10^(60:Int).toNat;decide),r⟩
 intro H1 s1 h1;have t1:Same H H1:=(Hx hp1 _).trans s1;have pn1:H p=none:=(Hx hp1 _).free hp;refine⟨_,rfl,_,rfl,a,_,rfl,t1.seq hS,λp2 hp2=>⟨p2,rfl,⟨_,SqL.of Hl⟩,λp' hp'=>?_⟩⟩;refine Rf (cap:=[]) ns (λn=>n%2147483563) (λn=>decide ((if n<0 then -n else n)<(10:Int)^(18:Int).toNat)) (by omega) (SqL.of (by rw[Hl,cut])) hp' ?_ ?_ ?_ ?_
 · rfl
 · exact λn H' R s r=>⟨_,rfl,_,rfl,_,_,rfl,rfl,JE (by decide) (by decide),_,_,rfl,rfl,_,rfl,r⟩
 · exact λn H' R s r=>⟨_,rfl,_,_,rfl,rfl,(by show(0:Int)<2147483563;decide),r⟩
 intro H2 s2 h2;have t12:Same H1 H2:=(Hx hp2 _).trans s2;have t2:Same H H2:=t1.trans t12;have g2:=t12 _ _ h1;have n2:H1 p'=none:=(Hx hp2 _).free hp';have lb:∀x∈(ns.filter λn=>decide ((if n<0 then -n else n)<(10:Int)^(18:Int).toNat)).map (λn=>n%2147483563),0≤x∧x<wM:=λx hx=>by obtain⟨y,_,rfl⟩:=AM.mp hx;exact⟨Ck _ (by decide),BK _ (by decide)⟩
 have ll:=C2 (λn=>decide ((if n<0 then -n else n)<(10:Int)^(18:Int).toNat)) ns
 have gg:=C2 (λn=>decide ((10:Int)^(18:Int).toNat≤(if n<0 then -n else n))) ns
 generalize hls:(ns.filter λn=>decide ((if n<0 then -n else n)<(10:Int)^(18:Int).toNat)).map (λn=>n%2147483563)=ls at*
 have lz:ls.length≤63:=by rw[←hls,Ab];omega
 generalize hgs:(ns.filter λn=>decide ((10:Int)^(18:Int).toNat≤(if n<0 then -n else n))).map (λn=>(if n<0 then -n else n)%(10^(60:Int).toNat*10^(60:Int).toNat))=gs at*
 have gz:gs.length≤63:=by rw[←hgs,Ab];omega
 refine⟨_,rfl,p',_,rfl,.inl (SqL.of h2),_,_,rfl,rfl,?_⟩;refine⟨_,rfl,p',rfl,⟨_,SqL.of h2⟩,Nb (K:=K) (a:=p') (xs:=ls.map V.int) (λi σ H'=>∃(st:Int)(x4:Option V),σ=[some (.ref a),some (.ref p),some (.ref p'),some (.int st),x4]∧H'=H2∧0≤st∧st<wM) ⟨_,none,rfl,rfl,by omega,by rw[Ab];unfold wM;omega⟩ (λi σ H' _ ⟨_,_,_,e,_⟩=>by rw[e];exact SqL.of h2) ?_ ?_⟩
 · rintro i x σ H' hx ⟨st,x4,rfl,rfl,z0,z1⟩;rw[Af] at hx;cases hn:ls[i]? with
   | none=>rw[hn] at hx;cases hx
   | some y=> rw[hn] at hx;obtain rfl:V.int y=x:=AB hx;obtain⟨y0,y1⟩:=lb y (Ak hn);have sm:∀z:Int,z.natAbs<2^100→z.natAbs<2^1000:=λz h=>AG h (by decide);refine⟨_,rfl,_,_,rfl,rfl,⟨sm _ (by unfold wM at z1;omega),by decide⟩,_,rfl,_,_,rfl,rfl,⟨sm _ (by unfold wM at y1;omega),by decide⟩,_,_,rfl,rfl,_,_,rfl,rfl,_,_,rfl,rfl,(by show(0:Int)<2147483563;decide),_,_,rfl,rfl,Ck _ (by decide),BK _ (by decide)⟩
 · rintro σ H' ⟨st,x4,rfl,rfl,z0,z1⟩;refine⟨_,rfl,_,rfl,_,rfl,PN,λp5 hp5=>?_⟩;have s5:=Hx hp5 (.lst [V.ref p,V.ref p',V.int st,V.int 0]);exact q p5 p p' _ ⟨⟨gs,ls,st,0,Hl,s5 _ _ g2,s5 _ _ h2,gz,lz,lb,z0,z1,by decide,by decide⟩,Jf h1 n2,(Jf g2 hp5).symm,(Jf h2 hp5).symm⟩ (t2.trans s5) (t2.free hp5) pn1
theorem XG(F:Fun K "_law_take" "_law_take" O9 f fd)  :FnOk P w K mg base HJ 1 f fd ["well","many"] (Qy):=by
 refine F.ok Gs (λvs H Q E h=>?_) (λcdv A outer s H vs Q E hr h=>?_)
 · obtain⟨b,g,l,n,many,rfl,Bg,hn,hm,hm2,q⟩:=h;rfl
 obtain⟨b,g,l,n,many,rfl,Bg,hn,hm,hm2,q⟩:=h;refine⟨_,(Hq (Ia (Io (Qn (Ng hr)) (HW IV (pv 0) Hk (λ_ _=>rfl)) (Je Hg) (Ih _)) (Hq (HB (i:=2) Gs.nd rfl (Or.inl rfl) (HW IV (HW IV (pv 0) Hk (λ_ _=>rfl)) Hk (λ_ _=>rfl)))
  (Hq (JM (Hu Rw (pv 2) (pv 1)) (NV (HW IV (pv 0) Hk (λ_ _=>rfl)) Hk Oq))
  (Hq (Ia (Io LS (pv 2) (pv 1) (Ih _)) (Hw (Kf (KA BY FJ FK Rs (HW IV (pv 0) Hk (λ_ _=>rfl)) (Hf Hk Hg)))) Ig)
  (Hw (HF (Hu J_ (pv 2) (pv 1))))))) Ig)
  (Hq (JM (Hu Ip (HW IV (pv 0) Hk (λ_ _=>rfl)) Hk) (NV (pv 0) Hk Oq))
  (Hq (HB (i:=3) Gs.nd rfl (Or.inl rfl) Hk)
  (Hq (Ia (Io (Qn (Ng hr)) (HW IV (pv 0) Hk (λ_ _=>rfl)) (Je Hg) (Ih _)) (Hw (HB (i:=3) Gs.nd rfl (Or.inl rfl) (Hu Ip (HW IV (HW IV (pv 0) Hk (λ_ _=>rfl)) (Hu J_ (HW IV (pv 0) Hk (λ_ _=>rfl)) (HK IM rfl B.len_ IC (Hf (HW IV (pv 0) Hk (λ_ _=>rfl)) Hg))) (λ_ _=>rfl)) Hk))) Ig)
  (Hq (HB (i:=2) Gs.nd rfl (Or.inl rfl) (Hu J_ (Hu Le (Hu Ip (HW IV (pv 0) Hk (λ_ _=>rfl)) (Hu L8 (pv 3) (Hu Ip (Hu L8 (HW IV (pv 0) Hk (λ_ _=>rfl)) Hk) Hk))) Hk) Hk))
  (Hq (JM (Hu J_ (Hu Ip (Hu Ip (Hu L8 (HW IV (pv 0) Hk (λ_ _=>rfl)) Hk) (pv 2)) (HW IV (pv 0) Hk (λ_ _=>rfl))) Hk) (NV (pv 0) Hk Oq))
  (Hw (HF (Hu J_ (Hu Rw (pv 2) Hk) (pv 1)))))))))),?_⟩
 obtain⟨gs,ls,sd,c,e1,e2,e3,z1,z2,z4,z5,z6,z7,z8⟩:=id Bg.ex;refine⟨_,rfl,b,_,0,_,rfl,rfl,SqL.of e1,rfl,K1,λp hp=>?_⟩;have s1:=Hx hp (.lst []);have B2:=Bg.same s1;have e1':=s1 _ _ e1;have e2':=s1 _ _ e2;have e3':=s1 _ _ e3;refine PX (SqL.of e2') (SqL.of Hl) ⟨_,rfl,?_⟩;generalize Hh H p (.lst [])=H2 at*;have S2:SameB b g H H2:=s1.sameB;clear s1;have bg:=Bg.bg;have bl:=Bg.bl;have gl:=Bg.gl;cases gs with
 | cons x r=>
  refine Hr ?_;refine⟨_,rfl,b,_,0,_,rfl,rfl,SqL.of e1',rfl,g,_,0,_,rfl,rfl,SqL.of e2',PH,?_⟩;refine⟨_,rfl,_,rfl,_,_,rfl,rfl,⟨hm,Int.lt_of_lt_of_le hm2 (by decide)⟩,_,rfl,b,_,0,_,rfl,rfl,SqL.of e1',rfl,g,_,0,0,rfl,rfl,e2',SZ,?_⟩;have f2:(Hh H2 g (.lst (((x::r).map V.int).set 0 (V.int (x / many))))) g=some (.lst (((x / many)::r).map V.int)):=Hl;have f1:(Hh H2 g (.lst (((x::r).map V.int).set 0 (V.int (x / many))))) b=some (.lst [V.ref g,V.ref l,V.int sd,V.int c]):=by rw[HC bg];exact e1'
  have f3:(Hh H2 g (.lst (((x::r).map V.int).set 0 (V.int (x / many))))) l=some (.lst (ls.map V.int)):=by rw[HC (By gl)];exact e3'
  have S3:SameB b g H (Hh H2 g (.lst (((x::r).map V.int).set 0 (V.int (x / many))))):=λa o h1 h2 h3=>by rw[HC h3];exact S2 a o h1 h2 h3
  dsimp only;generalize Hh H2 g (.lst (((x::r).map V.int).set 0 (V.int (x / many))))=H3 at*;refine⟨_,rfl,_,rfl,_,_,rfl,rfl,_,rfl,HI (λ_=>?_) (λ_=>?_)⟩
  · refine⟨_,rfl,b,_,0,_,rfl,rfl,SqL.of f1,rfl,.inl ⟨rfl,_,SqL.of f2⟩,g,_,0,0,_,rfl,rfl,f2,by decide,by decide,(Oc (SZ (x:=V.int (x / many)) (r:=r.map V.int))).1,rfl,?_⟩;refine⟨_,rfl,_,rfl,_,_,rfl,rfl,hm,q _ _ (Ck _ (by omega)) (BK _ hm) ⟨⟨r,ls,sd,c,?_,Hl,?_,by simp only[AN] at z1;omega,z2,z4,z5,z6,z7,by omega⟩,gl,bg,bl⟩ ?_⟩
    · rw[HC bg];exact f1
    · rw[HC (By gl)];exact f3
    · intro a o h1 h2 h3;rw[HC h3];exact S3 a o h1 h2 h3
  · exact⟨_,rfl,_,rfl,_,_,rfl,rfl,hm,q _ _ (Ck _ (by omega)) (BK _ hm) ⟨⟨x / many::r,ls,sd,c,f1,f2,f3,by simp only[AN] at z1 ⊢;omega,z2,z4,z5,z6,z7,by omega⟩,gl,bg,bl⟩ S3⟩
 | nil=>
  refine Hs ?_;refine⟨_,rfl,b,_,3,_,rfl,rfl,SqL.of e1',rfl,_,_,rfl,rfl,_,rfl,b,_,3,3,rfl,rfl,e1',rfl,?_⟩;have f1:(Hh H2 b (.lst ([V.ref g,V.ref l,V.int sd,V.int c].set 3 (V.int (c+1))))) b=some (.lst [V.ref g,V.ref l,V.int sd,V.int (c+1)]):=Hl;have f2:(Hh H2 b (.lst ([V.ref g,V.ref l,V.int sd,V.int c].set 3 (V.int (c+1))))) g=some (.lst []):=by rw[HC (By bg)];exact e2'
  have f3:(Hh H2 b (.lst ([V.ref g,V.ref l,V.int sd,V.int c].set 3 (V.int (c+1))))) l=some (.lst (ls.map V.int)):=by rw[HC (By bl)];exact e3'
  have S3:SameB b g H (Hh H2 b (.lst ([V.ref g,V.ref l,V.int sd,V.int c].set 3 (V.int (c+1))))):=λa o h1 h2 h3=>by rw[HC h2];exact S2 a o h1 h2 h3
  dsimp only;generalize Hh H2 b (.lst ([V.ref g,V.ref l,V.int sd,V.int c].set 3 (V.int (c+1))))=H3 at*;have c1:0≤c+1:=by omega
  have c2:c+1≤2^41:=by omega
  refine Me ?_;dsimp only;refine Kb (λσ' H'=>∃(cell:Int),σ'=[some (.ref b),some (.int many),none,some (.int cell)]∧1≤cell∧cell≤wM∧H' b=some (.lst [V.ref g,V.ref l,V.int sd,V.int (c+1)])∧H' g=some (.lst [])∧H' l=some (.lst (ls.map V.int))∧SameB b g H H') (λZ hZ=>?_) ?_
  · refine⟨_,rfl,b,_,1,_,rfl,rfl,SqL.of f1,rfl,K1,λp4 hp4=>?_⟩;have s4:=Hx hp4 (.lst []);have k1:=s4 _ _ f1;have k2:=s4 _ _ f2;have k3:=s4 _ _ f3;have S4:=S3.trans s4.sameB;refine PX (SqL.of k3) (SqL.of Hl) ⟨_,rfl,?_⟩;generalize Hh H3 p4 (.lst [])=H4 at*;cases ls with
    | nil=>exact Hs (hZ _ _ ⟨1,rfl,by decide,by decide,k1,k2,k3,S4⟩)
    | cons y ys=>
     refine Hr ?_;have lpos:(0:Int)<(((y::ys).map V.int).length:Int):=by rw[Ab,AN];omega
     have i0:=Ck (c+1) (Int.ne_of_gt lpos);have i1:=BK (c+1) lpos;obtain⟨v,hv,hvm⟩:=TW (ls:=y::ys) i0 (by rw[Ab] at i1 ⊢;exact i1);obtain⟨v0,v1⟩:=z4 v hvm;refine⟨_,rfl,b,_,1,_,rfl,rfl,SqL.of k1,rfl,_,rfl,b,_,3,_,rfl,rfl,SqL.of k1,rfl,_,rfl,b,_,1,_,rfl,rfl,SqL.of k1,rfl,l,_,rfl,.inl (SqL.of k3),_,_,rfl,rfl,lpos,l,_,_,_,rfl,rfl,SqL.of k3,hv,_,_,rfl,rfl,?_⟩;exact hZ _ _ ⟨v+1,rfl,by omega,by omega,k1,k2,k3,S4⟩
  rintro σ' H4 ⟨cell,rfl,l0,l1,k1,k2,k3,S4⟩;have sm:∀z:Int,z.natAbs<2^900→z.natAbs<2^1000:=λz h=>AG h (by decide);have b3:(c+1).natAbs<2^900:=BW (show(c+1).natAbs≤2^41 by omega) (by decide);have b4:((c+1)*3163+1).natAbs<2^900:=BW (show((c+1)*3163+1).natAbs≤2^60 by omega) (by decide);have b5:cell.natAbs<2^900:=BW (show cell.natAbs≤2^60 by unfold wM at l1;omega) (by decide);have big:(sd+cell*((c+1)*3163+1)).natAbs<2^1000:=by
   have a5:cell*((c+1)*3163+1)≤2^60*2^60:=Int.mul_le_mul (by unfold wM at l1;omega) (by omega) (by omega) (by decide);have a6:0≤cell*((c+1)*3163+1):=FI (by omega) (by omega);generalize cell*((c+1)*3163+1)=y at*;have a8:(sd+y).natAbs<2^125:=by unfold wM at z6;omega
   exact AG a8 (by decide)
  refine⟨_,rfl,b,_,2,_,rfl,rfl,SqL.of k1,rfl,_,rfl,_,rfl,b,_,3,_,rfl,rfl,SqL.of k1,rfl,_,_,rfl,rfl,⟨sm _ b3,by decide⟩,_,_,rfl,rfl,_,_,rfl,rfl,⟨sm _ b5,sm _ b4⟩,_,_,rfl,rfl,_,_,rfl,rfl,⟨by decide,by decide,big⟩,_,_,rfl,rfl,(by show(0:Int)<2147483563;decide),?_⟩;dsimp only;generalize(sd+cell*((c+1)*3163+1))^(5:Int).toNat=y;have y0:=Ck y (show(2147483563:Int)≠0 by decide);have y1:=BK y (show(0:Int)<2147483563 by decide);generalize y%2147483563=u at*;have b6:sd.natAbs<2^1000:=sm _ (BW (show sd.natAbs≤2^60 by unfold wM at z6;omega) (by decide));refine⟨_,rfl,b,_,2,_,rfl,rfl,SqL.of k1,rfl,_,_,rfl,rfl,⟨b6,by decide⟩,_,rfl,_,_,rfl,rfl,_,rfl,b,_,3,_,rfl,rfl,SqL.of k1,rfl,_,_,rfl,rfl,_,_,rfl,rfl,(by show(0:Int)<2147483563;decide),?_⟩;refine⟨_,rfl,b,_,2,2,rfl,rfl,k1,rfl,?_⟩;dsimp only;generalize sd*40692+u+(c+1)=v;have v0:=Ck v (show(2147483563:Int)≠0 by decide);have v1:=BK v (show(0:Int)<2147483563 by decide);generalize v%2147483563=t at*;refine⟨_,rfl,_,_,rfl,rfl,⟨by decide,by decide⟩,_,rfl,_,_,rfl,rfl,hm,?_⟩;refine q _ _ (Ck _ (by omega)) (BK _ hm) ⟨⟨[],ls,t,c+1,Hl,?_,?_,by simp,z2,z4,v0,v1,c1,by omega⟩,gl,bg,bl⟩ ?_
  · rw[HC (By bg)];exact k2
  · rw[HC (By bl)];exact k3
  · intro a o h1 h2 h3;rw[HC h2];exact S4 a o h1 h2 h3
theorem XE(F:Fun K "_law_name" "_law_name" Nj f fd)(GT:Γ27 P w K mg base):FnOk P w K mg base HJ 2 f fd ["well","most"] (Qw):=by
 refine F.ok Gu (λvs H Q E h=>?_) (λcdv A outer s H vs Q E hr h=>?_)
 · obtain⟨b,g,l,n,most,rfl,Bg,hn,m1,m8,q⟩:=h;rfl
 obtain⟨b,g,l,n,most,rfl,Bg,hn,m1,m8,q⟩:=h;refine⟨_,(Hq (HB (i:=2) Gu.nd rfl (Or.inr rfl) LX)
  (Hw (HF (KA PySem.F.plainAttrs_str PySem.F.slot_str_join PySem.F.type_str_join Ue LX (Hf (Jw (N':=["k","well","letters"]) (js:=[none,some 0,some 2]) rfl (IH (N:=["well","most","letters"]) (outer:=Hy Nj) (by decide+kernel)) (Mf rfl B.range_ (Hf (Hu Ip Hk (Hz GT (hr.mono (by decide)) rfl (Hf (pv 0) (Hf (pv 1) Hg)))) Hg)) (λ_ _ _ _ _=>(HA (i:=0) M9 rfl (Or.inl rfl))) (λ_ _ _ _ _=>Jg) (λ_ _ _ _ _=>(HW Qk (pv 2) (Hz GT (hr.mono (by decide)) rfl (Hf (pv 1) (Hf Hk Hg))) (λ_ _=>rfl)))) Hg))))),?_⟩
 refine Me ?_;refine⟨rfl,_,rfl,_,rfl,b,g,l,n,most,rfl,Bg,by omega,by omega,JV (by omega),λr H2 r0 r1 B2 S2=>?_⟩;refine⟨_,_,rfl,rfl,_,rfl,by omega,by omega,λp hp=>?_⟩;obtain⟨pb,pg,pl⟩:=B2.free hp;have s3:=Hx hp (.lst []);have np:H p=none:=B2.back S2 p hp;refine Rr (n:=(1+r).toNat) (λi σ' ys H'=>(∃v,σ'=[v,some (.ref b),some (.str "abcdefghijklmnopqrstuvwxyz")])∧SameB b g H H'∧Well H' b g l (n+1+i)∧H' p=some (.lst ys)∧∃cs:List Nat,ys=(cs.map λc=>(⟨#[c]⟩:Str)).map V.str∧cs.length=i∧∀c∈cs,KG c=true) ?_ ?_ ?_ ?_
 · exact⟨⟨none,rfl⟩,S2.trans s3.sameB,(B2.same s3).mono (by omega),Hl,[],rfl,rfl,λc hc=>by simp at hc⟩
 · rintro i σ' ys H' hi ⟨_,_,_,h1,cs,rfl,h2,_⟩;exact⟨h1,by rw[Ab,Ab,h2];exact IB (by omega)⟩
 · rintro i σ' ys H4 N hi ⟨⟨v,rfl⟩,S4,B4,h1,cs,rfl,h2,h3⟩ hN;refine⟨_,rfl,_,rfl,b,g,l,_,26,rfl,B4,by omega,by decide,by decide,λk H5 k0 k1 B5 S5=>?_⟩;obtain⟨c,hc,ok⟩:=Qa k0 k1;have h5:=S5 _ _ h1 pb pg;refine⟨_,_,c,rfl,rfl,(by show 26≤Av;decide),hc,h5,hN _ _ _ ⟨⟨_,rfl⟩,?_,?_,Hl,cs++[c],?_,?_,?_⟩⟩
   · exact(S4.trans S5).off np
   · exact(B5.off pb pg pl).mono (by omega)
   · rw[Ah,Ah];rfl
   · rw[Au,h2];rfl
   · intro c' hc';rcases As.mp hc' with z | z
     · exact h3 c' z
     · rw[Ae.mp z];exact ok
 · rintro σ' ys H4 ⟨_,S4,B4,h1,cs,rfl,h2,h3⟩;refine⟨_,_,_,rfl,rfl,SqL.of h1,UI cs (by omega),q _ _ (Xf (by omega) (by omega) h3) (B4.mono (by omega)) S4⟩
theorem Yu(F:Fun K "_law_fields" "_law_fields" ON f fd)(GU:Γ28 P w K mg base)(GT:Γ27 P w K mg base):FnOk P w K mg base HJ 3 f fd ["well","many"] (RK):=by
 refine F.ok Gv (λvs H Q E h=>?_) (λcdv A outer s H vs Q E hr h=>?_)
 · obtain⟨b,g,l,n,many,rfl,Bg,hn,m1,m6,q⟩:=h;rfl
 obtain⟨b,g,l,n,many,rfl,Bg,hn,m1,m6,q⟩:=h;refine⟨_,(Hq (HB (i:=2) Gv.nd rfl (Or.inl rfl) LX)
  (Hq (HB (i:=3) Gv.nd rfl (Or.inl rfl) (Je (Hf (Hz GU (hr.mono (by decide)) rfl (Hf (pv 0) (Hf Hk Hg))) Hg)))
  (Hq (JG BJ rfl (Mf rfl B.range_ (Hf (Hz GT (hr.mono (by decide)) rfl (Hf (pv 0) (Hf (pv 1) Hg))) Hg)) (HA (i:=4) Gv.nd rfl (Or.inl rfl)) (Hq (HB (i:=5) Gv.nd rfl (Or.inl rfl) (Hz GT (hr.mono (by decide)) rfl (Hf (pv 0) (Hf Hk Hg))))
  (Hq (HB (i:=6) Gv.nd rfl (Or.inl rfl) (HW IV (pv 3) (Hz GT (hr.mono (by decide)) rfl (Hf (pv 0) (Hf (HK IM rfl B.len_ IC (Hf (pv 3) Hg)) Hg))) (λ_ _=>rfl)))
  (Hq (HB (i:=7) Gv.nd rfl (Or.inl rfl) (HW Qk (pv 2) (Hz GT (hr.mono (by decide)) rfl (Hf (pv 0) (Hf Hk Hg))) (λ_ _=>rfl)))
  (Hq (HB (i:=8) Gv.nd rfl (Or.inl rfl) (Hz GT (hr.mono (by decide)) rfl (Hf (pv 0) (Hf (HK SI rfl B.len_ IC (Hf (pv 6) Hg)) Hg))))
  (Hq (HB (i:=9) Gv.nd rfl (Or.inl rfl) (Iz NY (HW IV (Je (Hf (Hu Np (pv 7) (pv 6)) (Hf (Hu Np (pv 6) (pv 7)) (Hf (Hu Np (Hu Np (Iz NY (pv 6) I0 (IA (pv 8))) (pv 7)) (Iz NY (pv 6) (IA (Hu Ip (pv 8) Hk)) I0)) (Hf (pv 7) Hg))))) (pv 5) (λ_ _=>rfl)) I0 (IA Hk)))
  (Hq (Ia (Io JY (pv 5) Hk (Ih _)) (Hw (HB (i:=9) Gv.nd rfl (Or.inl rfl) (Hz GU (hr.mono (by decide)) rfl (Hf (pv 0) (Hf Hk Hg))))) Ig)
  (Hw (Ia (Io SJ (pv 9) (pv 3) (by with_unfolding_all rfl)) (Hw (Kf (KA BY Dl Dm LJ (pv 3) (Hf (pv 9) Hg)))) Ig)))))))))
  (Hw (HF (HK Xw rfl B.sorted_ Op (Hf (pv 3) Hg))))))),?_⟩
 refine Me ?_;refine⟨_,rfl,b,g,l,n,7,rfl,Bg,by omega,by decide,by decide,λx0 H1 ok0 B1 S1=>?_⟩;refine⟨JU,λr hr'=>?_⟩;obtain⟨rb,rg,rl⟩:=B1.free hr';have nr:H r=none:=B1.back S1 r hr';have s2:=Hx hr' (.lst [V.str x0]);have e2:(Hh H1 r (.lst [V.str x0])) r=some (.lst [V.str x0]):=Hl;have B2:=B1.same s2;have S2:=S1.trans s2.sameB;generalize Hh H1 r (.lst [V.str x0])=H2 at*;refine⟨_,rfl,_,rfl,b,g,l,_,many,rfl,B2,by omega,by omega,JV (by omega),λc H3 c0 c1 B3 S3=>?_⟩;have e3:=S3 _ _ e2 rb rg;have S03:=S2.trans S3;refine⟨c,rfl,by omega,by omega,OH (lo:=0) (n:=c.toNat) (λi σ H'=>(∃y4 y5 y6 y7 y8 y9,σ=[some (.ref b),some (.int many),some (.str "abcdefghijklmnopqrstuvwxyz"),some (.ref r),y4,y5,y6,y7,y8,y9])∧SameB b g H H'∧Well H' b g l (n+13+20*i)∧∃ts:List Str,H' r=some (.lst (ts.map V.str))∧ts.Nodup∧1≤ts.length∧ts.length≤i+1∧∀t∈ts,FieldOk t) ?_ ?_ ?_⟩
 · exact⟨⟨none,none,none,none,none,none,rfl⟩,S03,B3.mono (by omega),[x0],e3,by simp,by simp,by simp,λt ht=>by rw[Ae.mp ht];exact ok0⟩
 · rintro i σ H4 hi ⟨⟨y4,y5,y6,y7,y8,y9,rfl⟩,S4,B4,ts,e4,nd,l1,l2,ok⟩;refine⟨_,rfl,b,g,l,_,4,rfl,B4,by omega,by decide,by decide,λpick H5 p0 p1 B5 S5=>?_⟩;have e5:=S5 _ _ e4 rb rg;refine⟨_,rfl,_,rfl,_,rfl,r,_,rfl,.inl (SqL.of e5),b,g,l,_,_,rfl,B5,by omega,by rw[Ab];omega,JV (by rw[Ab];omega),λk H6 k0 k1 B6 S6=>?_⟩;have e6:=S6 _ _ e5 rb rg;rw[Ab] at k1;obtain⟨j,rfl⟩:∃j:Nat,k=(j:Int):=⟨k.toNat,by omega⟩;obtain⟨first,ef⟩:∃f,ts[j]?=some f:=⟨ts[j]'(by omega),Aq (by omega)⟩
   have hf:Jh (ts.map V.str) (j:Int)=some (V.str first):=Kd (by rw[Af,ef];rfl)
   have okf:=ok first (Ak ef)
   refine⟨r,_,_,_,rfl,rfl,SqL.of e6,hf,?_⟩;refine⟨_,rfl,_,rfl,b,g,l,_,26,rfl,B6,by omega,by decide,by decide,λk H7 k0 k1 B7 S7=>?_⟩;have e7:=S7 _ _ e6 rb rg;obtain⟨c,hc,okc⟩:=Qa k0 k1;refine⟨_,_,c,rfl,rfl,(by show 26≤Av;decide),hc,?_⟩;have okl:FieldOk (⟨#[c]⟩:Str):=⟨by show 1≤1;decide,by show 1≤8;decide,λc' hc'=>by
    have:c'=c:=by simpa using hc'
    rw[this];exact okc⟩
   generalize(⟨#[c]⟩:Str)=letter at*;have f1:=okf.one;have f8:=okf.eight;have g1:=okl.one;have g8:=okl.eight;have sz:(100:Nat)≤Av:=by decide
   refine⟨_,rfl,_,rfl,_,rfl,by omega,b,g,l,_,_,rfl,B7,by omega,by omega,JV (by omega),λat' H8 a0 a1 B8 S8=>?_⟩;have e8:=S8 _ _ e7 rb rg;have S48:=S4.trans (S5.trans (S6.trans (S7.trans S8)));refine⟨_,rfl,_,rfl,_,_,rfl,rfl,by omega,_,rfl,_,rfl,_,_,rfl,rfl,by omega,_,rfl,_,rfl,_,rfl,first,rfl,by omega,λz1 a1' _ a3 _=>?_⟩
   refine⟨_,rfl,_,_,rfl,rfl,by omega,_,rfl,_,rfl,_,_,rfl,rfl,_,rfl,first,rfl,by omega,λz2 b1 _ b3 _=>?_⟩
   have la:(z1++letter).length=z1.length+letter.length:=by show(z1.cps++letter.cps).size=_;rw[EQ];rfl
   refine⟨_,_,rfl,rfl,by omega,_,rfl,PN,λwl hwl=>?_⟩;have s9:=Hx hwl (.lst [V.str (letter++first),V.str (first++letter),V.str (z1++letter++z2),V.str letter])
   have e9:(Hh H8 wl (.lst [V.str (letter++first),V.str (first++letter),V.str (z1++letter++z2),V.str letter])) wl=some (.lst [V.str (letter++first),V.str (first++letter),V.str (z1++letter++z2),V.str letter]):=Hl
   have e8:=s9 _ _ e8;have B9:=B8.same s9;have S49:=S48.trans s9.sameB;generalize Hh H8 wl (.lst [V.str (letter++first),V.str (first++letter),V.str (z1++letter++z2),V.str letter])=H9 at*
   have mem2:∀(x y:Str)(c:Nat),c∈(x++y).cps.toList→c∈x.cps.toList∨c∈y.cps.toList:=λx y c hc=>by have:c∈(x.cps++y.cps).toList:=hc;rw[Array.toList_append] at this;exact As.mp this
   have len2:∀x y:Str,(x++y).length=x.length+y.length:=λx y=>by show(x.cps++y.cps).size=_;rw[EQ];rfl
   obtain⟨W,hW,w1,w100,wl'⟩:∃W:Str,Jh [V.str (letter++first),V.str (first++letter),V.str (z1++letter++z2),V.str letter] pick=some (.str W)∧1≤W.length∧W.length≤100∧∀c∈W.cps.toList,KG c=true:=by
    have:pick=0∨pick=1∨pick=2∨pick=3:=by omega
    rcases this with rfl | rfl | rfl | rfl
    · refine⟨_,rfl,by rw[len2];omega,by rw[len2];omega,λc hc=>?_⟩;rcases mem2 _ _ c hc with z | z
      · exact okl.all c z
      · exact okf.all c z
    · refine⟨_,rfl,by rw[len2];omega,by rw[len2];omega,λc hc=>?_⟩;rcases mem2 _ _ c hc with z | z
      · exact okf.all c z
      · exact okl.all c z
    · refine⟨_,rfl,by rw[len2,len2];omega,by rw[len2,len2];omega,λc hc=>?_⟩;rcases mem2 _ _ c hc with z | z
      · rcases mem2 _ _ c z with z | z
        · exact okf.all c (a3 c z)
        · exact okl.all c z
      · exact okf.all c (b3 c z)
    · exact⟨_,rfl,g1,by omega,okl.all⟩
   refine⟨_,rfl,wl,_,_,_,rfl,rfl,SqL.of e9,hW,_,rfl,W,rfl,by omega,λword v1 v2 v3 v4=>?_⟩;have okw:FieldOk word:=⟨v4 8 rfl rfl (by decide) w1,by have:=v2 8 rfl (by decide);omega,λc hc=>wl' c (v3 c hc)⟩;refine Me ?_;dsimp only;refine Kb (λσ' H'=>∃word:Str,σ'=[some (.ref b),some (.int many),some (.str "abcdefghijklmnopqrstuvwxyz"),some (.ref r),some (.int (0+(i:Int))),some (.int pick),some (.str first),some (.str letter),some (.int at'),some (.str word)]∧FieldOk word∧SameB b g H H'∧Well H' b g l (n+13+20*i+17)∧H' r=some (.lst (ts.map V.str))) (λZ hZ=>?_) ?_
   · refine⟨_,rfl,rfl,_,rfl,HI (λ_=>?_) (λ_=>?_)⟩
     · exact⟨_,rfl,b,g,l,_,8,rfl,B9,by omega,by decide,by decide,λx H10 ok10 B10 S10=>hZ _ _ ⟨x,rfl,ok10,S49.trans S10,B10.mono (by omega),S10 _ _ e8 rb rg⟩⟩
     · exact hZ _ _ ⟨word,rfl,okw,S49,B9.mono (by omega),e8⟩
   rintro σ' H10 ⟨word',rfl,okw',S10,B10,e10⟩;have fl:(ts.map V.str).all JK=true:=by rw[Ek];exact AI.mpr λx _=>rfl
   refine⟨_,rfl,_,rfl,r,_,rfl,.inl (SqL.of e10),rfl,fl,_,rfl,?_⟩;have inE:KJ (.str word') (ts.map V.str)=decide (word'∈ts):=by
    unfold KJ;rw[List.any_map,Bq,BC,decide_eq_true_iff];constructor
    · rintro⟨x,hx,e⟩;have:x=word':=by simpa [JR] using e
      exact this ▸ hx
    · exact λh=>⟨word',h,by simp[JR]⟩
   rw[inE];by_cases hm:word'∈ts
   · rw[decide_eq_true hm];exact Hs ⟨⟨_,_,_,_,_,_,rfl⟩,S10,B10.mono (by omega),ts,e10,nd,l1,by omega,ok⟩
   · rw[decide_eq_false hm];refine Hr ⟨_,rfl,.inl ⟨rfl,_,SqL.of e10⟩,_,rfl,r,_,_,rfl,rfl,e10,(by rw[Ab];exact IB (by omega)),?_⟩;refine⟨⟨_,_,_,_,_,_,rfl⟩,S10.off nr,(B10.off rb rg rl).mono (by omega),ts++[word'],by rw[Hl,Ah];rfl,?_,by rw[Au];omega,by rw[Au];simp;omega,λt ht=>?_⟩
     · rw[List.nodup_append];exact⟨nd,by simp,λa ha b hb=>by rw[Ae.mp hb];exact λz=>hm (z ▸ ha)⟩
     · rcases As.mp ht with z | z
       · exact ok t z
       · rw[Ae.mp z];exact okw'
 · rintro σ H4 ⟨⟨y4,y5,y6,y7,y8,y9,rfl⟩,S4,B4,ts,e4,nd,l1,l2,ok⟩;refine⟨_,rfl,r,ts,rfl,SqL.of e4,by omega,λz ms mp mso hz=>?_⟩;have s5:=Hx hz (.lst (ms.map V.str));exact q z ms _ (B4.back S4 z hz) Hl (OF mso (mp.nodup_iff.mpr nd)) (λf hf=>ok f (mp.mem_iff.mp hf)) (by rw[mp.length_eq];exact l1) (by rw[mp.length_eq];omega) ((B4.same s5).mono (by omega)) (S4.trans s5.sameB)
theorem XD(F:Fun K "_law_base" "_law_base" O7 f fd)(GT:Γ27 P w K mg base):FnOk P w K mg base HJ 2 f fd ["well"] (Qs):=by
 refine F.ok Gw (λvs H Q E h=>?_) (λcdv A outer s H vs Q E hr h=>?_)
 · obtain⟨b,g,l,n,rfl,Bg,hn,q⟩:=h;rfl
 obtain⟨b,g,l,n,rfl,Bg,hn,q⟩:=h;refine⟨_,(Hq (HB (i:=1) Gw.nd rfl (Or.inl rfl) (Hz GT (hr.mono (by decide)) rfl (Hf (pv 0) (Hf Hk Hg))))
  (Hq (HB (i:=2) Gw.nd rfl (Or.inl rfl) (Hu Ka Hk (Hu KB Hk (Hz GT (hr.mono (by decide)) rfl (Hf (pv 0) (Hf Hk Hg))))))
  (Hq (Ia (Io JY (pv 1) Hk (Ih _)) (Hw (HF Hk)) Ig)
  (Hq (HB (i:=3) Gw.nd rfl (Or.inl rfl) (Hz GT (hr.mono (by decide)) rfl (Hf (pv 0) (Hf Hk Hg))))
  (Hq (Ia (Io JY (pv 1) Hk (Ih _)) (Hw (HB (i:=3) Gw.nd rfl (Or.inl rfl) (Hu Ip (Hu KB (Hu Ip (Hu KB (pv 3) Hk) (Hz GT (hr.mono (by decide)) rfl (Hf (pv 0) (Hf Hk Hg)))) Hk) (Hz GT (hr.mono (by decide)) rfl (Hf (pv 0) (Hf Hk Hg)))))) Ig)
  (Hw (HF (Hu KB (pv 2) (Hu J_ (pv 3) (Hu Ka (Hu Le Hk Hk) Hk)))))))))),?_⟩
 have NE:(10:Int)^(15:Int).toNat=1000000000000000:=by decide
 refine⟨_,rfl,b,g,l,n,3,rfl,Bg,by omega,by decide,by decide,λpick H1 p0 p1 B1 S1=>?_⟩;refine⟨_,rfl,b,g,l,_,2,rfl,B1,by omega,by decide,by decide,λc H2 c0 c1 B2 S2=>?_⟩;have S02:=S1.trans S2;refine⟨_,_,rfl,rfl,.inl ⟨by decide,by decide⟩,_,_,rfl,rfl,?_⟩;refine⟨_,rfl,rfl,_,rfl,HI (λ_=>q _ _ (by decide) (by decide) (B2.mono (by omega)) S02) (λ_=>?_)⟩;refine⟨_,rfl,b,g,l,_,100000,rfl,B2,by omega,by decide,by decide,λm H3 m0 m1 B3 S3=>?_⟩;have S03:=S02.trans S3;refine Me ?_;dsimp only;refine Kb (λσ' H'=>∃m:Int,σ'=[some (.ref b),some (.int pick),some (.int (1 - 2*c)),some (.int m)]∧0≤m∧SameB b g H H'∧Well H' b g l (n+5)) (λZ hZ=>?_) ?_
 · refine⟨_,rfl,rfl,_,rfl,HI (λ_=>?_) (λ_=>hZ _ _ ⟨m,rfl,m0,S03,B3.mono (by omega)⟩)⟩;refine⟨_,rfl,_,_,rfl,rfl,.inl ⟨by omega,by omega⟩,_,rfl,b,g,l,_,100000,rfl,B3,by omega,by decide,by decide,λm2 H4 m20 m21 B4 S4=>?_⟩;refine⟨_,_,rfl,rfl,_,_,rfl,rfl,.inl ⟨by omega,by omega⟩,_,rfl,b,g,l,_,100000,rfl,B4,by omega,by decide,by decide,λm3 H5 m30 m31 B5 S5=>?_⟩;exact⟨_,_,rfl,rfl,hZ _ _ ⟨_,rfl,by omega,S03.trans (S4.trans S5),B5.mono (by omega)⟩⟩
 rintro σ' H4 ⟨m,rfl,m0,S4,B4⟩;refine⟨_,rfl,_,rfl,_,_,rfl,rfl,JE (by decide) (by decide),_,_,rfl,rfl,_,_,rfl,rfl,(by show(0:Int)<10^(15:Int).toNat - 1000;decide),?_⟩;dsimp only;rw[NE];have y0:=Ck m (show(1000000000000000 - 1000:Int)≠0 by decide);have y1:=BK m (show(0:Int)<1000000000000000 - 1000 by decide);generalize m%(1000000000000000 - 1000)=y at*;have hc:c=0∨c=1:=by omega
 refine⟨_,_,rfl,rfl,.inl ⟨by omega,by omega⟩,q _ _ ?_ ?_ B4 S4⟩
 all_goals
  rcases hc with rfl | rfl
  all_goals omega
theorem Yc(F:Fun K "_law_whole" "_law_whole" OR f fd)  :FnOk P w K mg base HJ 1 f fd ["thing"] (MY K):=by
 refine F.ok Yh (λvs H Q E h=>?_) (λcdv A outer s H vs Q E hr h=>?_)
 · obtain⟨v,t,rfl,hty,q⟩:=h;rfl
 obtain⟨v,t,rfl,hty,q⟩:=h;refine⟨_,(Hw (HF (KY (HK (Kj (n:="")) rfl B.isinstance_ Kk (Hf (pv 0) (Hf (Ke (v:= .ty "int") rfl B.int_ Q2 rfl) Hg))) (KC (Qo (HK (Kj (n:="")) rfl B.isinstance_ Kk (Hf (pv 0) (Hf (Ke (v:= .ty "bool") rfl B.bool_ QE rfl) Hg)))))))),?_⟩;cases hty
 all_goals first
  | exact⟨_,rfl,_,"int","int",true,rfl,.int _,rfl,_,rfl,Hr ⟨_,rfl,_,"int","bool",false,rfl,.int _,rfl,_,rfl,q⟩⟩
  | exact⟨_,rfl,_,"bool","int",true,rfl,.bl _,rfl,_,rfl,Hr ⟨_,rfl,_,"bool","bool",true,rfl,.bl _,rfl,_,rfl,q⟩⟩
  | exact⟨_,rfl,_,_,"int",false,rfl,(by first | exact .non | exact .str _ | exact .flt _ | (exact .lst (by assumption)) | (exact .frz (by assumption)) | (exact .tup (by assumption)) | (exact .dK (by assumption)) | (exact .dT (by assumption))),rfl,_,rfl,Hs q⟩
theorem WJ(F:Fun K "_law_box" "_law_box" OD f fd)(GT:Γ27 P w K mg base)(GV:Γ30 P w K mg base):FnOk P w K mg base HJ 3 f fd ["well","names","ends"] (Qi):=by
 refine F.ok Gx (λvs H Q E h=>?_) (λcdv A outer s H vs Q E hr h=>?_)
 · obtain⟨b,g,l,a,n,fs,rfl,Bg,hn,ha,ab,ag,tf,q⟩:=h;rfl
 obtain⟨b,g,l,a,n,fs,rfl,Bg,hn,ha,ab,ag,tf,q⟩:=h;refine⟨_,(Hq (HB (i:=3) Gx.nd rfl (Or.inl rfl) (Je Hg))
  (Hq (JG BJ rfl (Jk (pv 1)) (HA (i:=4) Gx.nd rfl (Or.inl rfl)) (Hq (HB (i:=5) Gx.nd rfl (Or.inl rfl) (Hz GT (hr.mono (by decide)) rfl (Hf (pv 0) (Hf Hk Hg))))
  (Hq (HB (i:=6) Gx.nd rfl (Or.inl rfl) (Hz GV (hr.mono (by decide)) rfl (Hf (pv 0) Hg)))
  (Hq (HB (i:=7) Gx.nd rfl (Or.inl rfl) (Hz GT (hr.mono (by decide)) rfl (Hf (pv 0) (Hf Hk Hg))))
  (Hq (JG BJ rfl (Mf rfl B.range_ (Hf (Hz GT (hr.mono (by decide)) rfl (Hf (pv 0) (Hf Hk Hg))) Hg)) (HA (i:=8) Gx.nd rfl (Or.inl rfl)) (Hw (HB (i:=7) Gx.nd rfl (Or.inl rfl) (Hu Ip (Hu KB (pv 7) Hk) (Hz GT (hr.mono (by decide)) rfl (Hf (pv 0) (Hf Hk Hg)))))))
  (Hq (HB (i:=9) Gx.nd rfl (Or.inl rfl) (HK (VN rfl) rfl B.min_ Q3 (Hf (Hu Ip (pv 6) (pv 7)) (Hf (Hu Ka (Hu Le Hk Hk) Hk) Hg))))
  (Hq (Ia (PW.pt (KZ (JD (pv 2)) (LB (Io LS (pv 5) Hk (Ih _))))) (Hw (JM (HW IV (Je (Hf (Ir (Hf IY (Hf IY Hg))) (Hf (Ir (Hf IY (Hf (pv 9) Hg))) (Hf (Ir (Hf (pv 6) (Hf IY Hg))) Hg)))) (pv 5) (λ_ _=>rfl)) (Jq rfl (HG (HA (i:=6) Gx.nd rfl (Or.inl rfl)) (HG (HA (i:=9) Gx.nd rfl (Or.inl rfl)) IW))))) Ig)
  (Hw (Kf (KA BY Dl Dm LJ (pv 3) (Hf (Ir (Hf (pv 4) (Hf (pv 6) (Hf (pv 9) Hg)))) Hg)))))))))))
  (Hw (HF (Lf Nv rfl B.tuple_ Lb (Hf (pv 3) Hg)))))),?_⟩
 have l3:=tf.len;refine⟨K1,λpr hpr=>?_⟩;have s0:=Hx hpr (.lst []);have e0:(Hh H pr (.lst [])) pr=some (.lst []):=Hl;have B0:=Bg.same s0;obtain⟨pb,pg,pl⟩:=Bg.free hpr;have ha0:=s0 _ _ ha;have S0:SameB b g H (Hh H pr (.lst [])):=s0.sameB;generalize Hh H pr (.lst [])=H0 at*;have npa:pr≠a:=λe=>by rw[e,ha] at hpr;cases hpr
 refine⟨_,rfl,a,rfl,⟨_,SqL.of ha0⟩,Nb (K:=K) (a:=a) (xs:=fs.map V.str) (λi σ H'=>(∃y4 y5 y6 y7 y8 y9,σ=[some (.ref b),some (.ref a),some (.bl false),some (.ref pr),y4,y5,y6,y7,y8,y9])∧(SameB b g H H'∧Well H' b g l (n+20*(i:Int))∧H' a=some (.lst (fs.map V.str)))∧∃us:List (Addr×WP),H' pr=some (.lst (us.map λx=>V.ref x.1))∧(us.map (·.2)).map (·.1)=fs.take i∧(∀u∈us,H' u.1=some (.tup [.str u.2.1,eV u.2.2.1,eV u.2.2.2]))∧∀u∈us,∃l h,u.2.2=(some l,some h)∧ -bL≤l∧l≤h∧h≤bL) ⟨⟨none,none,none,none,none,none,rfl⟩,⟨S0,B0.mono (by omega),ha0⟩,[],e0,rfl,λu hu=>by simp at hu,λu hu=>by simp at hu⟩ (λi σ H' _ ⟨_,⟨_,_,z⟩,_⟩=>SqL.of z) ?_ ?_⟩
 · rintro i x σ H1 hx ⟨⟨y4,y5,y6,y7,y8,y9,rfl⟩,⟨S1,B1,ha1⟩,us,e1,u1,g1,k1⟩;rw[Af] at hx;cases ef:fs[i]? with
   | none=>rw[ef] at hx;cases hx
   | some fi=>
    rw[ef] at hx;obtain rfl:V.str fi=x:=AB hx;have li:=(An.mp ef).1;have lus:us.length≤3:=by have:=congrArg Be u1;rw[Ab,Ab,A5] at this;omega
    refine⟨_,rfl,b,g,l,_,8,rfl,B1,by omega,by decide,by decide,λpk H2 p0 p1 B2 S2=>?_⟩;refine⟨_,rfl,b,g,l,_,rfl,B2,by omega,λlow H3 w0 w1 B3 S3=>?_⟩;refine⟨_,rfl,b,g,l,_,9,rfl,B3,by omega,by decide,by decide,λwd H4 d0 d1 B4 S4=>?_⟩;refine⟨_,rfl,b,g,l,_,4,rfl,B4,by omega,by decide,by decide,λtk H5 t0 t1 B5 S5=>?_⟩;have S15:=(S2.trans S3).trans (S4.trans S5);have ha5:=S15 _ _ ha1 ab ag;have e5:=S15 _ _ e1 pb pg;have g5:∀u∈us,H5 u.1=some (.tup [.str u.2.1,eV u.2.2.1,eV u.2.2.2]):=λu hu=>B1.tup S15 (g1 u hu);obtain⟨N,eN,hN⟩:∃N:Nat,tk=(N:Int)∧N≤3:=⟨tk.toNat,by omega,by omega⟩;subst eN;refine⟨_,rfl,by omega,by omega,OH (lo:=0) (n:=((N:Int)).toNat) (λj σ H'=>(∃(wd:Int)(y8:Option V),σ=[some (.ref b),some (.ref a),some (.bl false),some (.ref pr),some (.str fi),some (.int pk),some (.int low),some (.int wd),y8,y9]∧0≤wd∧wd<9*100000^j)∧SameB b g H5 H'∧Well H' b g l (n+20*(i:Int)+9+(j:Int))) ⟨⟨wd,_,rfl,d0,by simpa using d1⟩,SameB.refl _ _ _,B5.mono (by omega)⟩ ?_ ?_⟩
    · rintro j σ H6 hj ⟨⟨wd',y8',rfl,z0,z1⟩,S6,B6⟩;have hj3:j<3:=by have:((N:Int)).toNat=N:=rfl;omega
      have p5:(100000:Int)^j≤100000^2:=by
       have:j=0∨j=1∨j=2:=by omega
       rcases this with rfl | rfl | rfl<;>decide
      refine⟨_,rfl,_,_,rfl,rfl,.inr ⟨by decide,by decide⟩,_,rfl,b,g,l,_,100000,rfl,B6,by omega,by decide,by decide,λc H7 c0 c1 B7 S7=>⟨_,_,rfl,rfl,⟨wd'*100000+c,_,rfl,by omega,?_⟩,S6.trans S7,B7.mono (by omega)⟩⟩;rw[Int.pow_succ];generalize(100000:Int)^j=z at*;omega
    · rintro σ H6 ⟨⟨wd',y8',rfl,z0,z1⟩,S6,B6⟩;have e6:=S6 _ _ e5 pb pg;have g6:∀u∈us,H6 u.1=some (.tup [.str u.2.1,eV u.2.2.1,eV u.2.2.2]):=λu hu=>B5.tup S6 (g5 u hu);have hNN:((N:Int)).toNat=N:=rfl;refine⟨_,rfl,_,rfl,_,_,rfl,rfl,_,_,rfl,rfl,JE (by decide) (by decide),_,_,rfl,rfl,?_⟩;dsimp only;obtain⟨hi,ehi,h1,h2⟩:∃hi:Int,(if 10^(15:Int).toNat - 1<low+wd' then 10^(15:Int).toNat - 1 else low+wd')=hi∧low≤hi∧hi≤bL:=by
       refine⟨_,rfl,?_,?_⟩
       · have:(10:Int)^(15:Int).toNat=1000000000000000:=by decide
         rw[this]
         split<;>omega
       · have:(10:Int)^(15:Int).toNat=1000000000000000:=by decide
         rw[this];show _≤(2000000000000000:Int)
         split<;>omega
      refine⟨_,_,rfl,?_⟩;rw[ehi];refine⟨_,rfl,_,rfl,Hs (Hs ?_)⟩;refine⟨_,rfl,.inl ⟨rfl,_,SqL.of e6⟩,_,rfl,_,rfl,_,rfl,MP,λt ht=>?_⟩;have st:=Hx ht (.tup [V.str fi,V.int low,V.int hi]);have e7:=st _ _ e6;refine⟨pr,_,_,rfl,rfl,e7,(by rw[Ab];exact IB (by omega)),?_⟩;have tl:=Kc (o:= .lst ((us.map λq=>V.ref q.1)++[V.ref t])) e7;have S7:=(S1.trans (S15.trans (S6.trans st.sameB)));refine⟨⟨_,_,_,_,_,_,rfl⟩,⟨S7.off hpr,((B6.same st).off pb pg pl).mono (by omega),?_⟩,us++[(t,fi,some low,some hi)],?_,?_,?_,?_⟩
      · rw[HC npa.symm];exact st _ _ (S6 _ _ ha5 ab ag)
      · rw[Hl,Ah];rfl
      · rw[Ah,Ah,u1,Iw ef];rfl
      · intro u hu;rcases As.mp hu with z | z
        · exact tl _ _ (st _ _ (g6 u z))
        · rw[Ae.mp z];exact tl _ _ Hl
      · intro u hu;rcases As.mp hu with z | z
        · exact k1 u z
        · rw[Ae.mp z];exact⟨low,hi,rfl,E_ (by decide) w0,h1,h2⟩
 · rintro σ H1 ⟨⟨y4,y5,y6,y7,y8,y9,rfl⟩,⟨S1,B1,ha1⟩,us,e1,u1,g1,k1⟩;rw[Ab,BL] at u1;have lus:us.length=fs.length:=by have:=congrArg Be u1;simpa using this
   refine⟨_,rfl,pr,_,rfl,.inl ⟨SqL.of e1,λt ht=>?_⟩⟩;have st:=Hx ht (.tup (us.map λx=>V.ref x.1));refine q t (us.map (·.2)) _ ⟨us,rfl,Hl,λx hx=>st _ _ (g1 x hx)⟩ ⟨⟨by rw[Ab];omega,λp hp=>?_,by rw[u1];exact tf.asc⟩,u1,λp hp=>?_⟩ ((B1.same st).mono (by rw[Ab];omega)) (S1.trans st.sameB)
   · obtain⟨x,hx,rfl⟩:=AM.mp hp;obtain⟨l',h',e,_,h2,_⟩:=k1 x hx;refine⟨tf.ok _ (by rw[←u1];exact AC (AC hx)),?_⟩;rw[e];exact decide_eq_true h2
   · obtain⟨x,hx,rfl⟩:=AM.mp hp;exact k1 x hx
theorem WK(F:Fun K "_law_cut" "_law_cut" OE f fd)(GT:Γ27 P w K mg base)(GV:Γ30 P w K mg base):FnOk P w K mg base HJ 3 f fd ["well","wish"] (Qj):=by
 refine F.ok Gy (λvs H Q E h=>?_) (λcdv A outer s H vs Q E hr h=>?_)
 · obtain⟨b,g,l,a,n,w',fs,rfl,Bg,hn,hw,bx,f1,f3,q⟩:=h;rfl
 obtain⟨b,g,l,a,n,w',fs,rfl,Bg,hn,hw,bx,f1,f3,q⟩:=h;refine⟨_,(Hq (HB (i:=2) Gy.nd rfl (Or.inl rfl) (Hz GT (hr.mono (by decide)) rfl (Hf (pv 0) (Hf (HK IM rfl B.len_ IC (Hf (pv 1) Hg)) Hg))))
  (Hq (JM (HW J0 (pv 1) (pv 2) (λ_ _=>rfl)) (Jq rfl (HG (HA (i:=3) Gy.nd rfl (Or.inl rfl)) (HG (HA (i:=4) Gy.nd rfl (Or.inl rfl)) (HG (HA (i:=5) Gy.nd rfl (Or.inl rfl)) IW)))))
  (Hq (Ia (PW.pt (KZ (Jj (L9 (pv 4))) (LB (Io JY (pv 4) (pv 5) (Ih _))))) (Hw (HF (Je (Hf (pv 1) Hg)))) Ig)
  (Hq (Ia (PW.pt (KZ (Jj (J9 (pv 4))) (LB (Jj (J9 (pv 5)))))) (Hw (HB (i:=6) Gy.nd rfl (Or.inl rfl) (Hz GV (hr.mono (by decide)) rfl (Hf (pv 0) Hg)))) (Hw (Ia (Jj (J9 (pv 4))) (Hw (HB (i:=6) Gy.nd rfl (Or.inl rfl) (Hu Ka (Hu Ka (pv 5) Hk) (Hz GT (hr.mono (by decide)) rfl (Hf (pv 0) (Hf Hk Hg)))))) (Hw (Ia (Jj (J9 (pv 5))) (Hw (HB (i:=6) Gy.nd rfl (Or.inl rfl) (Hu Ip (pv 4) (Hz GT (hr.mono (by decide)) rfl (Hf (pv 0) (Hf Hk Hg)))))) (Hq (HB (i:=7) Gy.nd rfl (Or.inl rfl) (Hu KB (Hu Ip (Hu KB (Hz GT (hr.mono (by decide)) rfl (Hf (pv 0) (Hf Hk Hg))) Hk) (Hz GT (hr.mono (by decide)) rfl (Hf (pv 0) (Hf Hk Hg)))) Hk))
  (Hw (HB (i:=6) Gy.nd rfl (Or.inl rfl) (Hu Ip (pv 4) (Hu J_ (Hu Ip (pv 7) (Hz GT (hr.mono (by decide)) rfl (Hf (pv 0) (Hf Hk Hg)))) (Hu Ka (pv 5) (pv 4))))))))))))
  (Hq (HB (i:=8) Gy.nd rfl (Or.inl rfl) (Hu JN (Hu JN (Iz Kh (pv 1) I0 (IA (pv 2))) (Ir (Hf (Ir (Hf (pv 3) (Hf (pv 4) (Hf (pv 6) Hg)))) Hg))) (Iz Kh (pv 1) (IA (Hu Ip (pv 2) Hk)) I0)))
  (Hw (HF (Je (Hf (pv 8) (Hf (Hu JN (Hu JN (Iz Kh (pv 1) I0 (IA (pv 2))) (Ir (Hf (Ir (Hf (pv 3) (Hf (Hu Ip (pv 6) Hk) (Hf (pv 5) Hg)))) Hg))) (Iz Kh (pv 1) (IA (Hu Ip (pv 2) Hk)) I0)) Hg)))))))))),?_⟩
 have lw:w'.length=fs.length:=by have:=congrArg Be bx.fl;simpa using this
 have hw0:=hw;obtain⟨ps,rfl,hA,hP⟩:=hw;rw[Ab] at lw;refine⟨_,rfl,_,rfl,a,_,rfl,.inr (SqT.of hA),b,g,l,_,_,rfl,Bg,by omega,(by rw[Ab];omega),(by rw[Ab];exact JV (by omega)),λc H1 c0 c1 B1 S1=>?_⟩;obtain⟨k,rfl⟩:∃k:Nat,c=(k:Int):=⟨c.toNat,by omega⟩;rw[Ab] at c1;have hk:k<ps.length:=by omega
 obtain⟨P1,eP⟩:∃P1,ps[k]?=some P1:=⟨ps[k],Aq hk⟩;have mP:=Ak eP;have hat:Jh (ps.map λp=>V.ref p.1) (k:Int)=some (V.ref P1.1):=Kd (by rw[Af,eP];rfl);have eW:(ps.map (·.2))[k]?=some P1.2:=by rw[Af,eP];rfl
 obtain⟨l',h',ee,h1,h2,h3⟩:=bx.ends P1.2 (AC mP);obtain⟨pa,f',sp⟩:=P1;dsimp only at*;subst ee;refine⟨_,rfl,_,rfl,a,_,_,_,rfl,rfl,SqT.of (Bg.tup S1 hA),hat,pa,_,rfl,SqT.of (Bg.tup S1 (hP _ mP)),rfl,_,_,rfl,_,_,rfl,_,_,rfl,rfl,?_⟩;refine⟨_,rfl,_,rfl,Hr ⟨_,rfl,_,rfl,rfl,_,rfl,HI (λh=>?_) (λh=>?_)⟩⟩
 · refine⟨_,rfl,JU,λr hr=>?_⟩;have s2:=Hx hr (.lst [V.ref a]);obtain⟨rb,rg,rl⟩:=B1.free hr;refine q r [(a,ps.map (·.2))] _ (S1.none hr rb rg) ⟨Hl,λx hx=>?_⟩ (by simp) (by simp) (SF _) (λx hx v hv=>?_) ((B1.same s2).mono (by omega)) (S1.trans s2.sameB)
   · rw[Ae.mp hx];exact⟨(hw0.sameW Bg S1).same s2,bx⟩
   · rw[Ae.mp hx];exact hv
 · have hne:l'≠h':=λe=>h (decide_eq_true (by rw[e]));have hlt:l'<h':=by omega
   refine⟨_,rfl,_,rfl,Hs (Hs ⟨_,rfl,_,rfl,Hs ⟨_,rfl,_,rfl,Hs ?_⟩⟩)⟩;refine⟨_,rfl,b,g,l,_,100000,rfl,B1,by omega,by decide,by decide,λc1 H2 _ _ B2 S2=>⟨_,_,rfl,rfl,.inr ⟨by decide,by decide⟩,_,rfl,b,g,l,_,100000,rfl,B2,by omega,by decide,by decide,λc2 H3 _ _ B3 S3=>⟨_,_,rfl,rfl,_,_,rfl,rfl,.inr ⟨by decide,by decide⟩,?_⟩⟩⟩;refine⟨_,rfl,_,rfl,_,rfl,b,g,l,_,100000,rfl,B3,by omega,by decide,by decide,λc3 H4 _ _ B4 S4=>⟨_,_,rfl,rfl,_,rfl,_,rfl,_,_,rfl,rfl,_,_,rfl,rfl,(by omega),_,_,rfl,rfl,?_⟩⟩;obtain⟨m,em,m1,m2⟩:∃m,l'+((c1*100000+c2)*100000+c3)%(h' - l')=m∧l'≤m∧m<h':=⟨_,rfl,by have:=Ck ((c1*100000+c2)*100000+c3) (show h' - l'≠0 by omega);omega,by have:=BK ((c1*100000+c2)*100000+c3) (show 0<h' - l' by omega);omega⟩;have S14:=S2.trans (S3.trans S4);have W4:WishAt H4 a (ps.map (·.2)):=(hw0.sameW Bg S1).sameW B1 S14;dsimp only;rw[em];refine Nf (k:=k) (f:=f') (lo:=some l') (hi:=some m) rfl rfl W4 (by rw[Ab];omega) (λ_ _ _ h=>⟨_,rfl,h⟩) (λ_ _ _ h=>⟨_,rfl,h⟩) (λ_ _ _ h=>⟨_,rfl,h⟩) λo1 H5 s5 W5=>?_;refine⟨_,rfl,?_⟩;refine Nf (k:=k) (f:=f') (lo:=some (m+1)) (hi:=some h') rfl rfl (W4.same s5) (by rw[Ab];omega) (λ_ _ _ h=>⟨_,rfl,h⟩) (λ_ _ _ h=>⟨_,rfl,_,_,rfl,rfl,h⟩) (λ_ _ _ h=>⟨_,rfl,h⟩) λo2 H6 s6 W6=>?_;refine⟨Jp,λr hr=>?_⟩;have s7:=Hx hr (.lst [V.ref o1,V.ref o2]);have B6:=B4.same (s5.trans s6);obtain⟨rb,rg,rl⟩:=B6.free hr;have S6:=(S1.trans S14).trans (s5.trans s6).sameB;refine q r [(o1,HL (ps.map (·.2)) k (f',some l',some m)),(o2,HL (ps.map (·.2)) k (f',some (m+1),some h'))] _ (S6.none hr rb rg) ⟨Hl,λx hx=>?_⟩ (by simp) (by simp) (Xc eW m1 m2) (λx hx v hv=>?_) ((B6.same s7).mono (by omega)) (S6.trans s7.sameB)
   · rcases Al.mp hx with rfl | hx
     · exact⟨W5.same (s6.trans s7),Nd bx eW h1 m1 (by omega)⟩
     · rw[Ae.mp hx];exact⟨W6.same s7,Nd bx eW (by omega) (by omega) h3⟩
   · obtain⟨L,U,l2,u2,ew,e2,g1,g2'⟩:=hv.at' k _ eW;cases e2;rcases Al.mp hx with rfl | hx
     · exact Cont.put hv eW ew g1 (by omega)
     · rw[Ae.mp hx];exact Cont.put hv eW ew (by omega) g2'
theorem Yt(F:Fun K "_law_cut_up" "_law_cut_up" OM f fd)(GT:Γ27 P w K mg base)(GW:Γ33 P w K mg base):FnOk P w K mg base HJ 4 f fd ["well","wish","many"] (QM):=by
 refine F.ok Gz (λvs H Q E h=>?_) (λcdv A outer s H vs Q E hr h=>?_)
 · obtain⟨b,g,l,a,n,many,w',fs,rfl,Bg,hn,hw,bx,f1,f3,m0,m1,q⟩:=h;rfl
 obtain⟨b,g,l,a,n,many,w',fs,rfl,Bg,hn,hw,bx,f1,f3,m0,m1,q⟩:=h;refine⟨_,(Hq (HB (i:=3) Gz.nd rfl (Or.inl rfl) (Je (Hf (pv 1) Hg)))
  (Hq (JG BJ rfl (Mf rfl B.range_ (Hf (pv 2) Hg)) (HA (i:=4) Gz.nd rfl (Or.inl rfl)) (Hq (HB (i:=5) Gz.nd rfl (Or.inl rfl) (Hz GT (hr.mono (by decide)) rfl (Hf (pv 0) (Hf (HK IM rfl B.len_ IC (Hf (pv 3) Hg)) Hg))))
  (Hw (HB (i:=3) Gz.nd rfl (Or.inl rfl) (Hu LW (Hu LW (Iz Kg (pv 3) I0 (IA (pv 5))) (Hz GW (hr.mono (by decide)) rfl (Hf (pv 0) (Hf (HW IV (pv 3) (pv 5) (λ_ _=>rfl)) Hg)))) (Iz Kg (pv 3) (IA (Hu Ip (pv 5) Hk)) I0))))))
  (Hw (HF (pv 3))))),?_⟩
 refine⟨_,rfl,JU,λr hr'=>?_⟩;have s0:=Hx hr' (.lst [V.ref a]);have B0:=Bg.same s0;have A0:BsAt fs (Hh H r (.lst [V.ref a])) r [(a,w')]:=⟨Hl,λx hx=>by rw[Ae.mp hx];exact⟨hw.same s0,bx⟩⟩;obtain⟨M,rfl,hM⟩:∃M:Nat,many=(M:Int)∧M≤6:=⟨many.toNat,by omega,by omega⟩;generalize Hh H r (.lst [V.ref a])=H0 at*;refine⟨_,rfl,_,rfl,by omega,by omega,OH (lo:=0) (n:=((M:Int)).toNat) (λi σ H'=>(∃(r':Addr)(y4 y5:Option V)(ps:List (Addr×List WP)),σ=[some (.ref b),some (.ref a),some (.int (M:Int)),some (.ref r'),y4,y5]∧H r'=none∧BsAt fs H' r' ps∧ps.length≤i+1∧1≤ps.length∧JL w' (ps.map (·.2))∧∀x∈ps,Cont x.2 w')∧SameB b g H H'∧Well H' b g l (n+15*(i:Int))) ⟨⟨r,none,none,[(a,w')],rfl,hr',A0,by simp,by simp,SF _,λx hx=>by rw[Ae.mp hx];exact Cont.refl bx⟩,s0.sameB,B0.mono (by omega)⟩ ?_ ?_⟩
 · rintro i σ H1 hi ⟨⟨r',y4,y5,ps,rfl,nr,A1,lp,lp1,sh,ct⟩,S1,B1⟩;obtain⟨qb,qg,ql⟩:r'≠b∧r'≠g∧r'≠l:=Bg.free nr;have hM':((M:Int)).toNat=M:=rfl;refine⟨_,rfl,_,rfl,r',_,rfl,.inl (SqL.of A1.at'),b,g,l,_,_,rfl,B1,by omega,(by rw[Ab];omega),(by rw[Ab];exact JV (by omega)),λc H2 c0 c1 B2 S2=>?_⟩;obtain⟨k,rfl⟩:∃k:Nat,c=(k:Int):=⟨c.toNat,by omega⟩;rw[Ab] at c1;have hk:k<ps.length:=by omega
   obtain⟨P1,eP⟩:∃P1,ps[k]?=some P1:=⟨ps[k],Aq hk⟩;have mP:=Ak eP;have hat:Jh (ps.map λp=>V.ref p.1) (k:Int)=some (V.ref P1.1):=Kd (by rw[Af,eP];rfl);have hd:ps.drop k=P1::ps.drop (k+1):=by obtain⟨_,e⟩:=An.mp eP;rw[C5 hk,e]
   have esp:ps=ps.take k++P1::ps.drop (k+1):=by rw[←hd,CY]
   have A2:=A1.sameW B1 qb qg S2;refine⟨_,rfl,_,rfl,_,rfl,r',_,rfl,SqL.of A2.at',λp1 hp1=>?_⟩;rw[Md rfl,←CF];have s3:=Hx hp1 (.lst ((ps.take k).map λx=>V.ref x.1));have e3:(Hh H2 p1 (.lst ((ps.take k).map λx=>V.ref x.1))) p1=some (.lst ((ps.take k).map λx=>V.ref x.1)):=Hl;obtain⟨p1b,p1g,p1l⟩:=B2.free hp1;generalize Hh H2 p1 (.lst ((ps.take k).map λx=>V.ref x.1))=H3 at*;have B3:=B2.same s3;have A3:=A2.same s3;refine⟨_,rfl,_,rfl,_,rfl,r',_,_,_,rfl,rfl,SqL.of A3.at',hat,b,g,l,P1.1,_,P1.2,fs,rfl,B3,by omega,(A3.ok P1 mP).1,(A3.ok P1 mP).2,f1,f3,λr2 qs H4 n2 A4 q2 q1 sh2 ct2 B4 S4=>?_⟩;have e4:=S4 _ _ e3 p1b p1g;have A34:=A3.sameW B3 qb qg S4;refine⟨p1,r2,_,_,rfl,rfl,e4,A4.at',(by rw[Ab,A5,Ab];exact Kq (by omega)),λp3 hp3=>?_⟩;have s5:=Hx hp3 (.lst (((ps.take k).map λx=>V.ref x.1)++qs.map λx=>V.ref x.1));have e5:(Hh H4 p3 (.lst (((ps.take k).map λx=>V.ref x.1)++qs.map λx=>V.ref x.1))) p3=some (.lst (((ps.take k).map λx=>V.ref x.1)++qs.map λx=>V.ref x.1)):=Hl;generalize Hh H4 p3 (.lst (((ps.take k).map λx=>V.ref x.1)++qs.map λx=>V.ref x.1))=H5 at*;refine⟨_,rfl,_,rfl,_,_,rfl,rfl,_,rfl,r',_,rfl,SqL.of (s5 _ _ A34.at'),λp4 hp4=>?_⟩;rw[M_ (n:=k+1) (by omega),←D0];have s6:=Hx hp4 (.lst ((ps.drop (k+1)).map λx=>V.ref x.1));have e6:(Hh H5 p4 (.lst ((ps.drop (k+1)).map λx=>V.ref x.1))) p4=some (.lst ((ps.drop (k+1)).map λx=>V.ref x.1)):=Hl;generalize Hh H5 p4 (.lst ((ps.drop (k+1)).map λx=>V.ref x.1))=H6 at*;refine⟨p3,p4,_,_,rfl,rfl,s6 _ _ e5,e6,(by rw[Au,Ab,A5,Ab,Ab,BB];exact Kq (by omega)),λp5 hp5=>?_⟩;have s7:=Hx hp5 (.lst (((ps.take k).map λx=>V.ref x.1)++(qs.map λx=>V.ref x.1)++(ps.drop (k+1)).map λx=>V.ref x.1));have s47:=s5.trans (s6.trans s7);have B6:=B4.same (s5.trans s6);have S6:=S1.trans (S2.trans (s3.sameB.trans (S4.trans (s5.trans s6).sameB)));have sh0:=sh;rw[esp,Ah,Az] at sh0;refine⟨⟨p5,_,_,ps.take k++qs++ps.drop (k+1),rfl,B6.back S6 _ hp5,⟨?_,λx hx=>?_⟩,?_,?_,?_,λx hx=>?_⟩,S6.trans s7.sameB,(B6.same s7).mono (by omega)⟩
   · rw[Hl,Ah,Ah]
   · rcases As.mp hx with z | z
     · rcases As.mp z with z | z
       · have:=A34.ok x (AO z);exact⟨this.1.same s47,this.2⟩
       · exact⟨(A4.ok x z).1.same s47,(A4.ok x z).2⟩
     · have:=A34.ok x (Cb z);exact⟨this.1.same s47,this.2⟩
   · rw[Au,Au,A5,BB];omega
   · rw[Au,Au];omega
   · rw[Ah,Ah];exact WV sh0 sh2
   · rcases As.mp hx with z | z
     · rcases As.mp z with z | z
       · exact ct x (AO z)
       · exact ct2 x z _ (ct P1 mP)
     · exact ct x (Cb z)
 · rintro σ H1 ⟨⟨r',y4,y5,ps,rfl,nr,A1,lp,lp1,sh,ct⟩,S1,B1⟩;have hM':((M:Int)).toNat=M:=rfl;exact⟨_,rfl,q r' ps H1 nr A1 (by omega) lp1 sh ct (B1.mono (by omega)) S1⟩
theorem Yv(F:Fun K "_law_turned" "_law_turned" N5 f fd)(GT:Γ27 P w K mg base):FnOk P w K mg base HJ 2 f fd ["well","row"] (R6):=by
 refine F.ok G0 (λvs H Q E h=>?_) (λcdv A outer s H vs Q E hr h=>?_)
 · obtain⟨b,g,l,a,n,xs,rfl,Bg,hn,ha,ab,ag,lx,q⟩:=h;rfl
 obtain⟨b,g,l,a,n,xs,rfl,Bg,hn,ha,ab,ag,lx,q⟩:=h;refine⟨_,(Hq (HB (i:=2) G0.nd rfl (Or.inr rfl) (Lf OK rfl B.list_ L_ (Hf (pv 1) Hg)))
  (Hw (HF (Jw (N':=["k","well","left"]) (js:=[none,some 0,some 2]) rfl (IH (N:=["well","row","left"]) (outer:=Hy N5) (by decide+kernel)) (Mf rfl B.range_ (Hf (HK IM rfl B.len_ IC (Hf (pv 1) Hg)) Hg)) (λ_ _ _ _ _=>(HA (i:=0) M8 rfl (Or.inl rfl))) (λ_ _ _ _ _=>Jg) (λ_ _ _ _ _=>(Tw K rfl BY FJ FK Rs (pv 2) (Hf (Hz GT (hr.mono (by decide)) rfl (Hf (pv 1) (Hf (HK (XQ K rfl) rfl B.len_ IC (Hf (pv 2) Hg)) Hg))) Hg))))))),?_⟩
 refine⟨_,rfl,a,_,rfl,.inl (SqL.of ha),λlf hlf=>?_⟩;have s0:=Hx hlf (.lst xs);have e0:(Hh H lf (.lst xs)) lf=some (.lst xs):=Hl;have B0:=Bg.same s0;obtain⟨fb,fg,fl⟩:=Bg.free hlf;have ha0:=s0 _ _ ha;have S0:SameB b g H (Hh H lf (.lst xs)):=s0.sameB;generalize Hh H lf (.lst xs)=H0 at*;refine⟨_,rfl,a,_,rfl,.inl (SqL.of ha0),_,rfl,(by omega),(by omega),λp hp=>?_⟩;have sp:=Hx hp (.lst []);obtain⟨pb,pg,pl⟩:=B0.free hp;have npf:p≠lf:=λe=>by rw[e,e0] at hp;cases hp
 refine Rr (lo:=0) (n:=xs.length) (λi σ' ys H'=>(∃v,σ'=[v,some (.ref b),some (.ref lf)])∧(SameB b g H H'∧Well H' b g l (n+(i:Int)))∧H' p=some (.lst ys)∧∃zs:List V,H' lf=some (.lst zs)∧zs.length=xs.length - i∧(ys++zs).Perm xs) ⟨⟨none,rfl⟩,⟨S0.trans sp.sameB,(B0.same sp).mono (by omega)⟩,Hl,xs,sp _ _ e0,by simp,FH _⟩ ?_ ?_ ?_
 · rintro i σ' ys H' hi ⟨_,_,h1,zs,h2,h3,h4⟩;have:=h4.length_eq;rw[Au] at this;exact⟨h1,IB (by omega)⟩
 · rintro i σ' ys H' N hi ⟨⟨v,rfl⟩,⟨S1,B1⟩,h1,zs,h2,h3,h4⟩ hN;refine⟨_,rfl,.inl ⟨rfl,_,SqL.of h2⟩,_,rfl,_,rfl,lf,_,rfl,.inl (SqL.of h2),b,g,l,_,_,rfl,B1,by omega,by omega,JV (by omega),λc H2 c0 c1 B2 S2=>?_⟩;obtain⟨k,rfl⟩:∃k:Nat,c=(k:Int):=⟨c.toNat,by omega⟩;have hk:k<zs.length:=by omega
   have f2:=S2 _ _ h2 fb fg;have g2':=S2 _ _ h1 pb pg;refine⟨lf,zs,(k:Int),k,zs[k],rfl,rfl,f2,by omega,by omega,?_,Aq hk,?_⟩
   · unfold PySem.seqIndex?;simp;omega
   · refine⟨by rw[HC npf];exact g2',hN _ _ _ ⟨⟨_,rfl⟩,⟨?_,?_⟩,Hl,zs.eraseIdx k,?_,?_,?_⟩⟩
     · exact((S1.trans S2).off hlf).off (s0.free hp)
     · exact((B2.off fb fg fl).off pb pg pl).mono (by omega)
     · rw[HC npf.symm,Hl]
     · rw[Dx];simp[hk];omega
     · rw[Bn];exact((SD zs k hk).append_left ys).trans h4
 · rintro σ' ys H' ⟨_,⟨S1,B1⟩,h1,zs,h2,h3,h4⟩;have:zs=[]:=Cu.mp (by omega);subst this;rw[Ch] at h4;exact q p ys H' (s0.free hp) h1 h4 (B1.mono (by omega)) S1
theorem XF(F:Fun K "_law_size" "_law_size" O8 f fd)  :FnOk P w K mg base HJ 1 f fd ["wish"] (Qx):=by
 refine F.ok G1 (λvs H Q E h=>?_) (λcdv A outer s H vs Q E hr h=>?_)
 · obtain⟨a,w',fs,rfl,hw,bx,q⟩:=h;rfl
 obtain⟨a,w',fs,rfl,hw,bx,q⟩:=h;refine⟨_,(Hq (HB (i:=1) G1.nd rfl (Or.inl rfl) Hk)
  (Hq (JG BJ rfl (Ku (pv 0)) (Jq rfl (HG (HA (i:=2) G1.nd rfl (Or.inl rfl)) (HG (HA (i:=3) G1.nd rfl (Or.inl rfl)) (HG (HA (i:=4) G1.nd rfl (Or.inl rfl)) IW)))) (Hw (HB (i:=1) G1.nd rfl (Or.inl rfl) (Hu KB (pv 1) (Hu Ip (Hu Ka (pv 4) (pv 3)) Hk)))))
  (Hw (HF (pv 1))))),?_⟩
 obtain⟨ps,rfl,hA,hP⟩:=hw;refine⟨_,rfl,a,rfl,⟨_,SqT.of hA⟩,Ob (K:=K) (a:=a) (xs:=ps.map λp=>V.ref p.1) (λi σ H'=>(∃y2 y3 y4,σ=[some (.ref a),some (.int (Jd ((ps.map (·.2)).take i))),y2,y3,y4])∧Same H H') ⟨⟨none,none,none,rfl⟩,Same.refl _⟩ (λi σ H' _ ⟨_,s⟩=>s.seqT (SqT.of hA)) ?_ ?_⟩
 · rintro i x σ H' hx ⟨⟨y2,y3,y4,rfl⟩,s⟩;obtain⟨P1,e1,rfl⟩:=HR hx;have hm:=Ak e1;have ew:(ps.map (·.2))[i]?=some P1.2:=by rw[Af,e1];rfl
   refine⟨P1.1,_,rfl,SqT.of (s _ _ (hP P1 hm)),rfl,_,_,rfl,_,_,rfl,_,_,rfl,rfl,?_⟩;obtain⟨l',h',e,h1,h2,h3⟩:=bx.ends P1.2 (AC hm);have h1: -2000000000000000≤l':=h1;have h3:h'≤2000000000000000:=h3;obtain⟨pa,f',sp⟩:=P1;dsimp only at*;subst e;refine⟨_,rfl,_,rfl,_,rfl,_,_,rfl,rfl,_,_,rfl,rfl,_,_,rfl,rfl,.inr ⟨by omega,by omega⟩,⟨some (.str f'),some (.int l'),some (.int h'),?_⟩,s⟩;rw[Iw ew,SE];rfl
 · rintro σ H' ⟨⟨y2,y3,y4,rfl⟩,s⟩;rw[Ab,AH (l:=ps.map (·.2)) (by simp)];exact⟨_,rfl,q _ s⟩
theorem Yd(F:Fun K "_law_wider" "_law_wider" OS f fd)(GT:Γ27 P w K mg base):FnOk P w K mg base HJ 2 f fd ["well","part","wish"] (QS):=by
 refine F.ok G2 (λvs H Q E h=>?_) (λcdv A outer s H vs Q E hr h=>?_)
 · obtain⟨b,g,l,a,c,n,p,w',fs,rfl,Bg,hn,hp,bp,hw,bw,ct,f1,f3,q⟩:=h;rfl
 obtain⟨b,g,l,a,c,n,p,w',fs,rfl,Bg,hn,hp,bp,hw,bw,ct,f1,f3,q⟩:=h;refine⟨_,(Hq (HB (i:=3) G2.nd rfl (Or.inl rfl) (Hz GT (hr.mono (by decide)) rfl (Hf (pv 0) (Hf (HK IM rfl B.len_ IC (Hf (pv 1) Hg)) Hg))))
  (Hq (HB (i:=4) G2.nd rfl (Or.inl rfl) (Hz GT (hr.mono (by decide)) rfl (Hf (pv 0) (Hf Hk Hg))))
  (Hq (JM (HW J0 (pv 1) (pv 3) (λ_ _=>rfl)) (Jq rfl (HG (HA (i:=5) G2.nd rfl (Or.inl rfl)) (HG (HA (i:=6) G2.nd rfl (Or.inl rfl)) (HG (HA (i:=7) G2.nd rfl (Or.inl rfl)) IW)))))
  (Hq (Ia (Io JY (pv 4) Hk (Ih _)) (Hw (HF (pv 1))) Ig)
  (Hq (Ia (Io JY (pv 4) Hk (Ih _)) (Hw (HF (Hu JN (Hu JN (Iz Kh (pv 1) I0 (IA (pv 3))) (Ir (Hf (Ir (Hf (pv 5) (Hf (HW J0 (HW J0 (pv 2) (pv 3) (λ_ _=>rfl)) Hk (λ_ _=>rfl)) (Hf (pv 7) Hg)))) Hg))) (Iz Kh (pv 1) (IA (Hu Ip (pv 3) Hk)) I0)))) Ig)
  (Hw (HF (Hu JN (Hu JN (Iz Kh (pv 1) I0 (IA (pv 3))) (Ir (Hf (Ir (Hf (pv 5) (Hf (pv 6) (Hf (HW J0 (HW J0 (pv 2) (pv 3) (λ_ _=>rfl)) Hk (λ_ _=>rfl)) Hg)))) Hg))) (Iz Kh (pv 1) (IA (Hu Ip (pv 3) Hk)) I0))))))))),?_⟩
 have lw:p.length=fs.length:=by have:=congrArg Be bp.fl;simpa using this
 have hp0:=hp;have hw0:=hw;obtain⟨ps,rfl,hA,hP⟩:=hp;obtain⟨ws,rfl,hC,hW⟩:=hw;rw[Ab] at lw;have lww:ws.length=ps.length:=by have:=ct.len;rw[Ab,Ab] at this;exact this.symm
 refine⟨_,rfl,_,rfl,a,_,rfl,.inr (SqT.of hA),b,g,l,_,_,rfl,Bg,by omega,(by rw[Ab];omega),(by rw[Ab];exact JV (by omega)),λk0 H1 c0 c1 B1 S1=>?_⟩;obtain⟨k,rfl⟩:∃k:Nat,k0=(k:Int):=⟨k0.toNat,by omega⟩;rw[Ab] at c1;have hk:k<ps.length:=by omega
 refine⟨_,rfl,b,g,l,_,3,rfl,B1,by omega,by decide,by decide,λpk H2 p0 p1 B2 S2=>?_⟩;have S12:=S1.trans S2;obtain⟨P1,eP⟩:∃P1,ps[k]?=some P1:=⟨ps[k],Aq hk⟩;obtain⟨W1,eQ⟩:∃W1,ws[k]?=some W1:=⟨ws[k]'(by omega),Aq (by omega)⟩;have mP:=Ak eP;have mQ:=Ak eQ;have hat:Jh (ps.map λp=>V.ref p.1) (k:Int)=some (V.ref P1.1):=Kd (by rw[Af,eP];rfl);have haw:Jh (ws.map λp=>V.ref p.1) (k:Int)=some (V.ref W1.1):=Kd (by rw[Af,eQ];rfl);have eW:(ps.map (·.2))[k]?=some P1.2:=by rw[Af,eP];rfl
 have eV':(ws.map (·.2))[k]?=some W1.2:=by rw[Af,eQ];rfl
 obtain⟨L,U,l',h',ew,e2,g1,g2'⟩:=ct.at' k _ eW;obtain⟨l0,h0,e0,z1,z2,z3⟩:=bp.ends P1.2 (AC mP);obtain⟨L0,U0,e9,y1,y2,y3⟩:=bw.ends W1.2 (AC mQ);rw[eV'] at ew;obtain⟨pa,f',sp⟩:=P1;obtain⟨wa,wf,wsp⟩:=W1;dsimp only at*;subst e2;cases e0;cases ew;cases e9;have hPa:=Bg.tup S12 (hP _ mP);have hWa:=Bg.tup S12 (hW _ mQ);have W2:WishAt H2 a (ps.map (·.2)):=hp0.sameW Bg S12;refine⟨_,rfl,_,rfl,a,_,_,_,rfl,rfl,SqT.of (Bg.tup S12 hA),hat,pa,_,rfl,SqT.of hPa,rfl,_,_,rfl,_,_,rfl,_,_,rfl,rfl,?_⟩;refine⟨_,rfl,rfl,_,rfl,HI (λh=>?_) (λh=>?_)⟩
 · exact⟨_,rfl,q a _ H2 W2 bp ct (λ_ h=>h) (B2.mono (by omega)) S12⟩
 refine⟨_,rfl,rfl,_,rfl,HI (λh=>?_) (λh=>?_)⟩
 · refine Nf (k:=k) (f:=f') (lo:=some L) (hi:=some h') rfl rfl W2 (by rw[Ab];omega) (λ_ _ _ h=>⟨_,rfl,h⟩) (λ_ _ s h=>⟨_,rfl,_,rfl,c,_,_,_,rfl,rfl,SqT.of (s _ _ (Bg.tup S12 hC)),haw,wa,_,1,_,rfl,rfl,SqT.of (s _ _ hWa),rfl,h⟩) (λ_ _ _ h=>⟨_,rfl,h⟩) λo1 H5 s5 W5=>?_;exact q o1 _ H5 W5 (Nd bp eW y1 (by omega) z3) (Cont.put ct eW eV' (CN _) g2') (λP h=>Sw eW rfl g1 (CN _) h) ((B2.same s5).mono (by omega)) (S12.trans s5.sameB)
 · refine Nf (k:=k) (f:=f') (lo:=some l') (hi:=some U) rfl rfl W2 (by rw[Ab];omega) (λ_ _ _ h=>⟨_,rfl,h⟩) (λ_ _ _ h=>⟨_,rfl,h⟩) (λ_ _ s h=>⟨_,rfl,_,rfl,c,_,_,_,rfl,rfl,SqT.of (s _ _ (Bg.tup S12 hC)),haw,wa,_,2,_,rfl,rfl,SqT.of (s _ _ hWa),rfl,h⟩) λo1 H5 s5 W5=>?_;exact q o1 _ H5 W5 (Nd bp eW z1 (by omega) y3) (Cont.put ct eW eV' g1 (CN _)) (λP h=>Sw eW rfl (CN _) g2' h) ((B2.same s5).mono (by omega)) (S12.trans s5.sameB)
theorem Tr(F:Fun K "law" "law" Kp f fd)(GX:Γ26 P w K mg base)(GT:Γ27 P w K mg base)(GY:Γ29 P w K mg base)(GZ:Γ32 P w K mg base)(G_:Γ34 P w K mg base)(Ha:Γ36 P w K mg base)(Hb:Γ35 P w K mg base)(Hc:Γ25 P w K mg base)(Hd:Γ31 P w K mg base)(He:Γ37 P w K mg base):FnOk P w K mg base HJ 10 f fd ["script"] (MU K):=by
 refine F.ok G3 (λvs H Q E h=>?_) (λcdv A outer s H vs Q E hr h=>?_)
 · obtain⟨a,ns,rfl,hS,h63,q⟩:=h;rfl
 obtain⟨a,ns,rfl,hS,h63,q⟩:=h;refine⟨_,(Hq (HB (i:=1) G3.nd rfl (Or.inr rfl) (Hz GX (hr.mono (by decide)) rfl (Hf (pv 0) Hg)))
  (Hq (HB (i:=2) G3.nd rfl (Or.inl rfl) (Hz GT (hr.mono (by decide)) rfl (Hf (pv 1) (Hf Hk Hg))))
  (Hq (HB (i:=3) G3.nd rfl (Or.inl rfl) (Hz GT (hr.mono (by decide)) rfl (Hf (pv 1) (Hf Hk Hg))))
  (Hq (HB (i:=4) G3.nd rfl (Or.inl rfl) (Hz GY (hr.mono (by decide)) rfl (Hf (pv 1) (Hf Hk Hg))))
  (Hq (HB (i:=5) G3.nd rfl (Or.inr rfl) (pv 4))
  (Hq (Ia (PW.pt (KZ (Io L1 (HK IM rfl B.len_ IC (Hf (pv 4) Hg)) Hk (Ih _)) (LB (Io JY (Hz GT (hr.mono (by decide)) rfl (Hf (pv 1) (Hf Hk Hg))) Hk (Ih _))))) (Hq (HB (i:=6) G3.nd rfl (Or.inl rfl) (Hz GT (hr.mono (by decide)) rfl (Hf (pv 1) (Hf (HK IM rfl B.len_ IC (Hf (pv 4) Hg)) Hg))))
  (Hw (HB (i:=5) G3.nd rfl (Or.inr rfl) (Hu LW (Iz Kg (pv 4) I0 (IA (pv 6))) (Iz Kg (pv 4) (IA (Hu Ip (pv 6) Hk)) I0))))) Ig)
  (Hq (HB (i:=7) G3.nd rfl (Or.inr rfl) (Hz GZ (hr.mono (by decide)) rfl (Hf (pv 1) (Hf (pv 5) (Hf K9 Hg)))))
  (Hq (HB (i:=8) G3.nd rfl (Or.inl rfl) (Hz G_ (hr.mono (by decide)) rfl (Hf (pv 1) (Hf (pv 7) (Hf (pv 3) Hg)))))
  (Hq (HB (i:=9) G3.nd rfl (Or.inl rfl) (Hz Ha (hr.mono (by decide)) rfl (Hf (pv 7) Hg)))
  (Hq (Ia (Io JY (pv 2) Hk (Ih _)) (Hw (Nc (N':=["one","well","wish"]) (js:=[none,some 1,some 7]) (i:=8) G3.nd rfl (Or.inl rfl) rfl (IH (N:=["script","well","pick","cuts","names","own","at","wish","parts","due","told","wishes","handed","found"]) (outer:=Hy Kp) (by decide+kernel)) (Jk (pv 8)) (λ_ _ _ _ _=>(HA (i:=0) M7 rfl (Or.inl rfl))) (λ_ _ _ _ _=>Jg) (λ_ _ _ _ _=>(Hz He (hr.mono (by decide)) rfl (Hf (pv 1) (Hf (pv 0) (Hf (pv 2) Hg))))))) Ig)
  (Hq (Ia (Io JY (pv 2) Hk (Ih _)) (Hq (HB (i:=6) G3.nd rfl (Or.inl rfl) (Hz GT (hr.mono (by decide)) rfl (Hf (pv 1) (Hf (HK IM rfl B.len_ IC (Hf (pv 8) Hg)) Hg))))
  (Hq (HB (i:=9) G3.nd rfl (Or.inl rfl) (Hu Ka (pv 9) (Hz Ha (hr.mono (by decide)) rfl (Hf (HW IV (pv 8) (pv 6) (λ_ _=>rfl)) Hg))))
  (Hw (HB (i:=8) G3.nd rfl (Or.inl rfl) (Hu LW (Iz Kg (pv 8) I0 (IA (pv 6))) (Iz Kg (pv 8) (IA (Hu Ip (pv 6) Hk)) I0)))))) Ig)
  (Hq (HB (i:=10) G3.nd rfl (Or.inl rfl) (pv 5))
  (Hq (Ia (PW.pt (KZ (Io LS (HK IM rfl B.len_ IC (Hf (pv 8) Hg)) Hk (Ih _)) (LB (Io LS (HK IM rfl B.len_ IC (Hf (pv 5) Hg)) (HK IM rfl B.len_ IC (Hf (pv 4) Hg)) (Ih _))))) (Hw (Kf (KA BY Dl Dm LJ (pv 8) (Hf (Lf Nv rfl B.tuple_ Lb (Hf (Jw (N':=["field","own"]) (js:=[none,some 5]) rfl (IH (N:=["script","well","pick","cuts","names","own","at","wish","parts","due","told","wishes","handed","found"]) (outer:=Hy Kp) (by decide+kernel)) (Jk (pv 4)) (λ_ _ _ _ _=>(HA (i:=0) M6 rfl (Or.inl rfl))) (λ_ _ _ _ _=>LF (Io (Wq K rfl) (pv 0) (pv 1) (by with_unfolding_all rfl))) (λ_ _ _ _ _=>(Ir (Hf (pv 0) (Hf IY (Hf IY Hg)))))) Hg)) Hg)))) (Hw (Ia (Io JY (Hz GT (hr.mono (by decide)) rfl (Hf (pv 1) (Hf Hk Hg))) Hk (Ih _)) (Hw (HB (i:=10) G3.nd rfl (Or.inl rfl) IY)) Ig)))
  (Hq (HB (i:=11) G3.nd rfl (Or.inl rfl) (Hz Hb (hr.mono (by decide)) rfl (Hf (pv 1) (Hf (pv 8) Hg))))
  (Hq (HB (i:=12) G3.nd rfl (Or.inl rfl) (Lf OK rfl B.list_ L_ (Hf (pv 11) Hg)))
  (Hq (HB (i:=13) G3.nd rfl (Or.inl rfl) (Uh Hc (hr.mono (by decide)) rfl (Hf (pv 12) (Hf (Mj (Jj (J9 (pv 10))) IY (Lf OK rfl B.list_ L_ (Hf (pv 10) Hg))) Hg))))
  (Hw (HF (KY (LA (Qm (Ng hr)) (pv 12) (pv 11) (Ih _)) (KY (Hz Hd (hr.mono (by decide)) rfl (Hf (pv 13) Hg)) (KC (LA (Qm (Ng hr)) (pv 13) (pv 9) (Ih _))))))))))))))))))))))),?_⟩
 refine⟨_,rfl,a,ns,rfl,hS,h63,λb g l H1 B1 S1 nb ng=>?_⟩;refine⟨_,rfl,b,g,l,_,3,rfl,B1,by decide,by decide,by decide,λpick H2 p0 p1 B2 S2=>?_⟩;refine⟨_,rfl,b,g,l,_,7,rfl,B2,by decide,by decide,by decide,λcuts H3 d0 d1 B3 S3=>?_⟩;refine⟨_,rfl,b,g,l,_,3,rfl,B3,by decide,by decide,by decide,λna fs H4 n4 e4 asc4 ok4 l1 l3 B4 S4=>?_⟩;obtain⟨xb,xg,_⟩:=B3.free n4;have l3:fs.length≤3:=by omega
 have tF:ToldF fs:=⟨l3,ok4,asc4⟩;refine⟨_,rfl,?_⟩;dsimp only;refine Kb (λσ' H'=>∃(oa:Addr)(own:List Str)(y6:Option V),σ'=[some (.ref a),some (.ref b),some (.int pick),some (.int cuts),some (.ref na),some (.ref oa),y6,none,none,none,none,none,none,none]∧H' oa=some (.lst (own.map V.str))∧(oa≠b∧oa≠g)∧own.Sublist fs∧1≤own.length∧H' na=some (.lst (fs.map V.str))∧Well H' b g l 2000) (λZ hZ=>?_) ?_
 · refine⟨_,rfl,na,_,rfl,.inl (SqL.of e4),_,_,rfl,rfl,_,rfl,HI (λh=>?_) (λh=>?_)⟩
   · have l2:1<fs.length:=by
      have:=of_decide_eq_true h;rw[Ab] at this;omega
     refine⟨_,rfl,b,g,l,_,2,rfl,B4,by decide,by decide,by decide,λc5 H5 _ _ B5 S5=>⟨rfl,_,rfl,HI (λ_=>?_) (λ_=>?_)⟩⟩
     · have e5:=S5 _ _ e4 xb xg;refine⟨_,rfl,_,rfl,na,_,rfl,.inl (SqL.of e5),b,g,l,_,_,rfl,B5,by decide,(by rw[Ab];omega),(by rw[Ab];exact JV (by omega)),λc H6 c0 c1 B6 S6=>?_⟩;obtain⟨k,rfl⟩:∃k:Nat,c=(k:Int):=⟨c.toNat,by omega⟩;rw[Ab] at c1;have e6:=S6 _ _ e5 xb xg;refine S9 (k:=k) rfl rfl e6 (by rw[Ab];omega) λr H7 nr s7 e7=>?_;obtain⟨rb,rg,_⟩:=B6.free nr;refine hZ _ _ ⟨r,fs.eraseIdx k,_,rfl,by rw[e7,OI],⟨rb,rg⟩,Ec _ _,?_,s7 _ _ e6,(B6.same s7).mono (by omega)⟩;rw[Dx]
       split<;>omega
     · exact hZ _ _ ⟨na,fs,_,rfl,S5 _ _ e4 xb xg,⟨xb,xg⟩,List.Sublist.refl _,by omega,S5 _ _ e4 xb xg,B5.mono (by omega)⟩
   · exact Hs (hZ _ _ ⟨na,fs,_,rfl,e4,⟨xb,xg⟩,List.Sublist.refl _,by omega,e4,B4.mono (by omega)⟩)
 clear S1 S2 S3 S4 B1 B2 B3 B4 e4;rintro σ' H5 ⟨oa,own,y6,rfl,o5,⟨ob,og⟩,sub,o1,e5,B5⟩;have o3:own.length≤3:=AT sub.length_le l3;have tO:ToldF own:=⟨o3,λf hf=>ok4 f (sub.subset hf),asc4.sublist sub⟩;refine⟨_,rfl,_,rfl,b,g,l,oa,_,own,rfl,B5,by decide,o5,ob,og,tO,λwr w H6 W6 bx B6 S6=>?_⟩;refine⟨_,rfl,_,rfl,_,rfl,b,g,l,wr,_,cuts,w,own,rfl,B6,by decide,W6,bx,o1,o3,d0,by omega,λpr ps H7 n7 A7 l7 lp sh ct B7 S7=>?_⟩;have W7:=W6.sameW B6 S7;refine⟨_,rfl,wr,w,own,rfl,W7,bx,λH8 s8=>?_⟩;have o8:=s8 _ _ (S7 _ _ (S6 _ _ o5 ob og) ob og);have e8:=s8 _ _ (S7 _ _ (S6 _ _ e5 xb xg) xb xg);have A8:=A7.same s8;have W8:=W7.same s8;have B8:=B7.same s8;obtain⟨qb,qg,ql⟩:=B6.free n7;have qo:pr≠oa:=λe=>by rw[e,S6 _ _ o5 ob og] at n7;cases n7
 clear S6 S7 B6 B7 A7 W6 W7 n7;dsimp only;refine Kb (λσ' H'=>∃(pr:Addr)(ps:List (Addr×List WP)),σ'=[some (.ref a),some (.ref b),some (.int pick),some (.int cuts),some (.ref na),some (.ref oa),y6,some (.ref wr),some (.ref pr),some (.int (Jd w)),none,none,none,none]∧BsAt own H' pr ps∧ps.length≤7∧1≤ps.length∧(pr≠b∧pr≠g∧pr≠l∧pr≠oa)∧(∀P,(ps.map (·.2)).any (λp=>Ho p P)=Ho w P)∧(pick=2→JL w (ps.map (·.2)))∧H' oa=some (.lst (own.map V.str))∧H' na=some (.lst (fs.map V.str))∧Well H' b g l 3000) (λZ hZ=>?_) ?_
 · refine⟨_,rfl,rfl,_,rfl,HI (λh=>?_) (λh=>?_)⟩
   · have pk:pick=1:=by have:=of_decide_eq_true h;injection this
     refine⟨_,rfl,pr,rfl,⟨_,SqL.of A8.at'⟩,λfl hfl=>?_⟩;have sT:=Hx hfl (.lst []);obtain⟨fb,fg,fll⟩:=B8.free hfl;have fo:fl≠oa:=λe=>by rw[e,o8] at hfl;cases hfl
     refine Ks (xs:=ps.map λx=>V.ref x.1) (λi σ' ys H'=>(∃v,σ'=[v,some (.ref b),some (.ref wr)])∧SameB b g H8 H'∧Well H' b g l (2500+2*(i:Int))∧H' fl=some (.lst ys)∧∃us:List (Addr×List WP),ys=us.map (λx=>V.ref x.1)∧us.length=i∧(∀x∈us,WishAt H' x.1 x.2∧BoxOk own x.2∧Cont x.2 w)∧∀P,((ps.take i).map (·.2)).any (λp=>Ho p P)=true→(us.map (·.2)).any (λp=>Ho p P)=true) ⟨⟨none,rfl⟩,sT.sameB,(B8.same sT).mono (by omega),Hl,[],rfl,rfl,λx hx=>by simp at hx,λP h=>by simp at h⟩ ?_ ?_ ?_
     · rintro i σ' ys H' hi ⟨_,sB,Bw,h1,us,rfl,lu,_,_⟩;refine⟨SqL.of (sB _ _ A8.at' qb qg),h1,?_⟩;rw[Ab] at hi ⊢;exact IB (by omega)
     · rintro i x σ' ys H9 N hx ⟨⟨v,rfl⟩,sB,Bw,h1,us,rfl,lu,ok,tk⟩ hN;obtain⟨X1,ew,rfl⟩:=HR hx;have mX:=Ak ew;have hi:=(An.mp ew).1;refine⟨_,rfl,_,rfl,_,rfl,b,g,l,X1.1,wr,_,X1.2,w,own,rfl,Bw,by omega,(A8.ok X1 mX).1.sameW B8 sB,(A8.ok X1 mX).2,W8.sameW B8 sB,bx,ct X1 mX,o1,o3,λr p' H10 W10 b10 c10 t10 B10 S10=>?_⟩;have h10:=S10 _ _ h1 fb fg;have tl:=Kc (o:= .lst (us.map (λx=>V.ref x.1)++[V.ref r])) h10;refine⟨h10,hN _ _ _ ⟨⟨_,rfl⟩,(sB.trans S10).off hfl,(B10.off fb fg fll).mono (by omega),Hl,us++[(r,p')],by rw[Ah];rfl,by rw[Au,lu];rfl,λy hy=>?_,λP h=>?_⟩⟩
       · rcases As.mp hy with z | z
         · exact⟨((ok y z).1.sameW Bw S10).keep λ_ _ e=>tl _ _ e,(ok y z).2⟩
         · rw[Ae.mp z];exact⟨W10.keep λ_ _ e=>tl _ _ e,b10,c10⟩
       · rw[Iw ew,Ah,Dq,Fu] at h;rw[Ah,Dq,Fu];rcases h with h | h
         · exact .inl (tk P h)
         · simp at h;exact .inr (by simp;exact t10 P h)
     · rintro σ' ys H9 ⟨_,sB,Bw,h1,us,rfl,lu,ok,tk⟩;rw[Ab] at lu;refine hZ _ _ ⟨fl,us,rfl,⟨h1,λx hx=>⟨(ok x hx).1,(ok x hx).2.1⟩⟩,by omega,by omega,⟨fb,fg,fll,fo⟩,λP=>?_,λe=>by omega,sB _ _ o8 ob og,sB _ _ e8 xb xg,Bw.mono (by rw[Ab];omega)⟩;rw[Bq];constructor
       · intro h;obtain⟨p,hp,t⟩:=BC.mp h;obtain⟨x,hx,rfl⟩:=AM.mp hp;exact(ok x hx).2.2.takes t
       · intro h;exact tk P (by rw[Ab,BL,OA sh P];exact h)
   · exact hZ _ _ ⟨pr,ps,rfl,A8,l7,lp,⟨qb,qg,ql,qo⟩,λP=>OA sh P,λ_=>sh,o8,e8,B8.mono (by omega)⟩
 clear sh ct A8 W8 B8 o8 e8 l7 lp qb qg ql qo;rintro σ' H9 ⟨pr,ps,rfl,A9,l7,lp,⟨qb,qg,ql,qo⟩,any9,sh9,o9,e9,B9⟩;refine Kb (λσ' H'=>∃(pr:Addr)(ps:List (Addr×List WP))(y6:Option V)(due:Int),σ'=[some (.ref a),some (.ref b),some (.int pick),some (.int cuts),some (.ref na),some (.ref oa),y6,some (.ref wr),some (.ref pr),some (.int due),none,none,none,none]∧BsAt own H' pr ps∧ps.length≤7∧(pr≠b∧pr≠g∧pr≠l∧pr≠oa)∧due=((IG own λP=>(ps.map (·.2)).any λp=>Ho p P:Nat):Int)∧H' oa=some (.lst (own.map V.str))∧H' na=some (.lst (fs.map V.str))∧Well H' b g l 4000) (λZ hZ=>?_) ?_
 · refine⟨_,rfl,rfl,_,rfl,HI (λh=>?_) (λh=>?_)⟩
   · have pk:pick=2:=by have:=of_decide_eq_true h;injection this
     refine⟨_,rfl,_,rfl,pr,_,rfl,.inl (SqL.of A9.at'),b,g,l,_,_,rfl,B9,by decide,(by rw[Ab];omega),(by rw[Ab];exact JV (by omega)),λc H10 c0 c1 B10 S10=>?_⟩;obtain⟨k,rfl⟩:∃k:Nat,c=(k:Int):=⟨c.toNat,by omega⟩;rw[Ab] at c1;have hk:k<ps.length:=by omega
     obtain⟨P1,eP⟩:∃P1,ps[k]?=some P1:=⟨ps[k],Aq hk⟩;have mP:=Ak eP;have hat:Jh (ps.map λp=>V.ref p.1) (k:Int)=some (V.ref P1.1):=Kd (by rw[Af,eP];rfl);have hd:ps.drop k=P1::ps.drop (k+1):=by obtain⟨_,e⟩:=An.mp eP;rw[C5 hk,e]
     have esp:ps=ps.take k++P1::ps.drop (k+1):=by rw[←hd,CY]
     have sh0:=sh9 pk;rw[esp,Ah,Az] at sh0;have ee:(ps.eraseIdx k).map (·.2)=(ps.take k).map (·.2)++(ps.drop (k+1)).map (·.2):=by rw[Ed,Ah]
     have ea:=Vs (fs:=own) (f:=λP=>Ho w P) (g:=λP=>Ho P1.2 P) (h:=λP=>((ps.eraseIdx k).map (·.2)).any λp=>Ho p P) λP _=>by rw[ee];exact Xr sh0 P
     have A10:=A9.sameW B9 qb qg S10;refine⟨_,rfl,_,rfl,_,rfl,pr,_,_,_,rfl,rfl,SqL.of A10.at',hat,P1.1,P1.2,own,rfl,(A10.ok P1 mP).1,(A10.ok P1 mP).2,λH11 s11=>⟨_,_,rfl,rfl,?_⟩⟩;have A11:=A10.same s11;refine S9 (k:=k) rfl rfl A11.at' (by rw[Ab];omega) λr H12 nr s12 e12=>?_;have B11:=B10.same s11;obtain⟨rb,rg,rl⟩:=B11.free nr;have ro:r≠oa:=λe=>by rw[e,s11 _ _ (S10 _ _ o9 ob og)] at nr;cases nr
     have A12:=A11.same s12;refine hZ _ _ ⟨r,ps.eraseIdx k,_,_,rfl,⟨by rw[e12,OI],λx hx=>A12.ok x ((Ec _ _).subset hx)⟩,AT (Ec _ _).length_le l7,⟨rb,rg,rl,ro⟩,?_,s12 _ _ (s11 _ _ (S10 _ _ o9 ob og)),s12 _ _ (s11 _ _ (S10 _ _ e9 xb xg)),(B11.same s12).mono (by omega)⟩;rw[Ow bx,Ow (A9.ok P1 mP).2,ea];omega
   · exact hZ _ _ ⟨pr,ps,_,_,rfl,A9,l7,⟨qb,qg,ql,qo⟩,by rw[Ow bx];exact congrArg Int.ofNat (Sy λP _=>(any9 P).symm),o9,e9,B9.mono (by omega)⟩
 clear A9 any9 sh9 o9 e9 l7 lp qb qg ql qo B9;rintro σ' H10 ⟨pr,ps,y6,due,rfl,A10,l7,⟨qb,qg,ql,qo⟩,ed,o10,e10,B10⟩;have base:∀x∈ps,Lr fs x.2∧Iv Kn 1 bM x.2:=λx hx=>⟨λp hp=>sub.subset (by rw[←(A10.ok x hx).2.fl];exact AC hp),(A10.ok x hx).2.grid⟩;have okb:∀w∈ps.map (·.2),BoxOk own w:=λw' hw=>by obtain⟨x,hx,rfl⟩:=AM.mp hw;exact(A10.ok x hx).2
 have flt:(ps.map (·.2)).filter (Ji own)=ps.map (·.2):=List.filter_eq_self.mpr λw' hw=>WF (okb w' hw);have WS:∀H',BsAt own H' pr ps→WsAt H' pr ps:=λH' A=>⟨A.at',λx hx=>⟨(A.ok x hx).1,(A.ok x hx).2.ok⟩,by omega⟩;refine⟨_,rfl,?_⟩;dsimp only;refine Kb (λσ' H'=>∃(pr:Addr)(ws:List (Addr×List WP))(tv:V),σ'=[some (.ref a),some (.ref b),some (.int pick),some (.int cuts),some (.ref na),some (.ref oa),y6,some (.ref wr),some (.ref pr),some (.int due),some tv,none,none,none]∧WsAt H' pr ws∧ws.length≤7∧(pr≠b∧pr≠g)∧(∀x∈ws,Lr fs x.2∧Iv Kn 1 bM x.2)∧(ws.map (·.2)).filter (Ji own)=ps.map (·.2)∧(tv= .ref oa∨tv= .non∧ws=ps)∧H' oa=some (.lst (own.map V.str))∧Well H' b g l 5000) (λZ hZ=>?_) ?_
 · refine⟨_,rfl,pr,_,rfl,.inl (SqL.of A10.at'),_,_,rfl,rfl,_,rfl,HI (λh1=>?_) (λh1=>Hs ?_)⟩
   · refine⟨_,rfl,oa,_,rfl,.inl (SqL.of o10),_,rfl,na,_,rfl,.inl (SqL.of e10),_,_,rfl,rfl,_,rfl,HI (λh2=>?_) (λh2=>?_)⟩
     · have k7:ps.length<7:=by
        have:=of_decide_eq_true h1;rw[Ab] at this;omega
       have ko:own.length<fs.length:=by have:=of_decide_eq_true h2;rw[Ab,Ab] at this;omega
       refine⟨_,rfl,.inl ⟨rfl,_,SqL.of A10.at'⟩,_,rfl,na,rfl,⟨_,SqL.of e10⟩,λfl hfl=>?_⟩;have sT:=Hx hfl (.lst []);refine Ks (xs:=fs.map V.str) (λi σ' ys H'=>(∃v,σ'=[v,some (.ref oa)])∧Same H10 H'∧H' fl=some (.lst ys)∧∃us:List (Addr×WP),ys=us.map (λx=>V.ref x.1)∧us.map (·.2)=Jx (fs.take i) own∧∀u∈us,H' u.1=some (.tup [.str u.2.1,eV u.2.2.1,eV u.2.2.2])) ⟨⟨none,rfl⟩,sT,Hl,[],rfl,rfl,λu hu=>by simp at hu⟩ ?_ ?_ ?_
       · rintro i σ' ys H' hi ⟨_,s,h1,us,rfl,u1,_⟩;refine⟨s.seq (SqL.of e10),h1,?_⟩;have:=congrArg Be u1;unfold Jx at this;rw[Ab,Ab] at this;have h3:=C2 (λf=>!decide (f∈own)) (fs.take i);rw[A5] at h3;rw[Ab];exact IB (by omega)
       · rintro i x σ' ys H11 N hx ⟨⟨v,rfl⟩,s11,h3,us,rfl,u1,u2⟩ hN;rw[Af] at hx;cases ef:fs[i]? with
         | none=>rw[ef] at hx;cases hx
         | some fi=>
          rw[ef] at hx;obtain rfl:V.str fi=x:=AB hx;refine⟨_,rfl,_,rfl,oa,_,rfl,.inl (SqL.of (s11 _ _ o10)),rfl,Sj _,_,rfl,?_⟩;have st:Jx (fs.take (i+1)) own=Jx (fs.take i) own++(if(!decide (fi∈own))=true then [(fi,none,none)] else []):=by
           unfold Jx;rw[Iw ef,C3,Ah];congr 1;rw[Dj]
           split<;>rfl
          rw[if_pos rfl,Ol];cases c:decide (fi∈own) with
          | true=> rw[c] at st;exact Hs (hN _ _ _ ⟨⟨_,rfl⟩,s11,h3,us,rfl,by rw[u1,st];simp,u2⟩)
          | false=>
           rw[c] at st;refine Hr ⟨_,rfl,MP,λt ht=>?_⟩;have s12:=Hx ht (.tup [V.str fi,V.non,V.non]);have h4:=s12 _ _ h3;have tl:=Kc (o:= .lst (us.map (λx=>V.ref x.1)++[V.ref t])) h4;refine⟨h4,hN _ _ _ ⟨⟨_,rfl⟩,JA (s11.trans s12) hfl,Hl,us++[(t,fi,none,none)],by rw[Ah];rfl,by rw[Ah,u1,st];rfl,λu hu=>?_⟩⟩;rcases As.mp hu with z | z
           · exact tl _ _ (s12 _ _ (u2 u z))
           · rw[Ae.mp z];exact tl _ _ Hl
       · rintro σ' ys H11 ⟨_,s11,h3,us,rfl,u1,u2⟩;rw[Ab,BL] at u1;refine⟨fl,_,rfl,.inl ⟨SqL.of h3,λt ht=>?_⟩⟩;have s12:=Hx ht (.tup (us.map λx=>V.ref x.1));have A12:=A10.same (s11.trans s12);have Wt:WishAt (Hh H11 t (.tup (us.map λx=>V.ref x.1))) t (Jx fs own):=⟨us,u1,Hl,λu hu=>s12 _ _ (u2 u hu)⟩;generalize Hh H11 t (.tup (us.map λx=>V.ref x.1))=H12 at*;refine⟨pr,_,_,rfl,rfl,A12.at',(by rw[Ab];exact IB (by omega)),?_⟩;have tl:=Kc (o:= .lst (ps.map (λx=>V.ref x.1)++[V.ref t])) A12.at';have B12:=B10.same (s11.trans s12);refine hZ _ _ ⟨pr,ps++[(t,Jx fs own)],.ref oa,rfl,⟨by rw[Hl,Ah];rfl,λx hx=>?_,by rw[Au];simp;omega⟩,by rw[Au];simp;omega,⟨qb,qg⟩,λx hx=>?_,?_,.inl rfl,?_,(B12.off qb qg ql).mono (by omega)⟩
         · rcases As.mp hx with z | z
           · exact⟨(A12.ok x z).1.keep λ_ _ e=>tl _ _ e,(A12.ok x z).2.ok⟩
           · rw[Ae.mp z];exact⟨Wt.keep λ_ _ e=>tl _ _ e,Us tF⟩
         · rcases As.mp hx with z | z
           · exact base x z
           · rw[Ae.mp z];exact⟨Ur _ _,Wv _ _⟩
         · rw[Ah,C3,flt];simp[Ww tF tO ko]
         · rw[HC]
           · exact s12 _ _ (s11 _ _ o10)
           · exact qo.symm
     · refine⟨_,rfl,b,g,l,_,2,rfl,B10,by decide,by decide,by decide,λc H11 _ _ B11 S11=>⟨rfl,_,rfl,HI (λ_=>?_) (λ_=>?_)⟩⟩
       · exact hZ _ _ ⟨pr,ps,.non,rfl,WS _ (A10.sameW B10 qb qg S11),l7,⟨qb,qg⟩,base,flt,.inr ⟨rfl,rfl⟩,S11 _ _ o10 ob og,B11.mono (by omega)⟩
       · exact hZ _ _ ⟨pr,ps,.ref oa,rfl,WS _ (A10.sameW B10 qb qg S11),l7,⟨qb,qg⟩,base,flt,.inl rfl,S11 _ _ o10 ob og,B11.mono (by omega)⟩
   · refine⟨_,rfl,b,g,l,_,2,rfl,B10,by decide,by decide,by decide,λc H11 _ _ B11 S11=>⟨rfl,_,rfl,HI (λ_=>?_) (λ_=>?_)⟩⟩
     · exact hZ _ _ ⟨pr,ps,.non,rfl,WS _ (A10.sameW B10 qb qg S11),l7,⟨qb,qg⟩,base,flt,.inr ⟨rfl,rfl⟩,S11 _ _ o10 ob og,B11.mono (by omega)⟩
     · exact hZ _ _ ⟨pr,ps,.ref oa,rfl,WS _ (A10.sameW B10 qb qg S11),l7,⟨qb,qg⟩,base,flt,.inl rfl,S11 _ _ o10 ob og,B11.mono (by omega)⟩
 rintro σ' H11 ⟨pr',ws,tv,rfl,W11,lw7,⟨qb',qg'⟩,in11,fl11,tv11,o11,B11⟩;refine⟨_,rfl,_,rfl,b,g,l,pr',_,_,rfl,B11,by decide,W11.at',qb',qg',(by rw[Ab];omega),λr ys H12 nr e12 pm B12 S12=>?_⟩;obtain⟨us,pu,rfl⟩:=XJ pm ws rfl;have W12:WsAt H12 r us:=⟨e12,λx hx=>⟨(W11.ok x (pu.subset hx)).1.sameW B11 S12,(W11.ok x (pu.subset hx)).2⟩,by rw[pu.length_eq];omega⟩;have o12:=S12 _ _ o11 ob og;refine⟨_,rfl,r,_,rfl,.inl (SqL.of e12),λhd hhd=>?_⟩;have s13:=Hx hhd (.lst (us.map λx=>V.ref x.1));have W13:=W12.same s13;have V13:WsAt (Hh H12 hd (.lst (us.map λx=>V.ref x.1))) hd us:=⟨Hl,W13.ok,W13.len⟩;have o13:=s13 _ _ o12;generalize Hh H12 hd (.lst (us.map λx=>V.ref x.1))=H13 at*;have mx:∀x∈us,Lr fs x.2∧Iv Kn 1 bM x.2:=λx hx=>in11 x (pu.subset hx);have lu:us.length≤7:=by rw[pu.length_eq];omega
 have gk:NN 1 bM:=⟨by decide,by decide,by decide⟩;have rp:∀(K:Ai)(c:Addr)(H':Hp),WsAt H' c us→Hi K H' (.lst ((us.map (·.2)).map dW)) (.ref c):=λK c H' h=>by rw[Hi];exact⟨c,_,rfl,SqL.of h.at',Rb us λx hx=>(h.ok x hx).1⟩
 have dp:ID (.lst ((us.map (·.2)).map dW))<60:=by rw[ID];have:=Se (us.map (·.2));omega
 have key:∃fo,ToldF fo∧Iq fo (us.map (·.2))=some due∧(tv= .ref oa∧fo=own∨tv= .non∧FieldsOf (us.map (·.2)) fo):=by
  have m:=Vi o3 pu fl11 okb;rw[←ed] at m;rcases tv11 with e | ⟨e,rfl⟩
  · exact⟨own,tO,m,.inl ⟨e,rfl⟩⟩
  · obtain⟨fo,t1,t2,t3⟩:=Xe (us:=us.map (·.2)) tO λw hw=>okb w ((pu.map (·.2)).subset hw);refine⟨fo,t1,?_,.inr ⟨e,t2⟩⟩;rcases t3 with rfl | ⟨z,rfl⟩
    · exact m
    · rw[z] at m ⊢;exact m
 obtain⟨fo,tfo,mf,tvv⟩:=key;rcases tvv with⟨rfl,rfl⟩ | ⟨rfl,fof⟩
 · refine⟨_,rfl,_,rfl,_,rfl,Hs ⟨_,rfl,oa,_,rfl,.inl (SqL.of o13),λtl htl=>?_⟩⟩;have s14:=Hx htl (.lst (fo.map V.str));refine⟨hd,.ref tl,us,fs,fo,Kn,1,bM,rfl,V13.same s14,lu,tF,λx hx=>(mx x hx).1,tfo,.inr ⟨tl,rfl,Hl⟩,gk,λx hx=>(mx x hx).2,λH15 s15=>?_⟩;have V15:=V13.same (s14.trans s15);have W15:=W13.same (s14.trans s15);rw[mf];refine⟨_,rfl,_,rfl,.lst ((us.map (·.2)).map dW),.lst ((us.map (·.2)).map dW),rp _ hd _ V15,rp _ r _ W15,dp,_,rfl,HI (λ_=>?_) (λh=>absurd (Lg _) h)⟩;refine⟨_,rfl,_,"int",rfl,.int _,_,rfl,Hr ?_⟩;refine⟨_,rfl,_,rfl,.int due,.int due,(by rw[Hi]<;>rfl),(by rw[Hi]<;>rfl),(by simp[ID]),?_⟩;rw[show HE (.int due) (.int due)=true from Lg _];exact q _
 · refine⟨_,rfl,_,rfl,_,rfl,Hr ?_⟩;refine⟨hd,.non,us,fs,fo,Kn,1,bM,rfl,V13,lu,tF,λx hx=>(mx x hx).1,tfo,.inl ⟨rfl,fof⟩,gk,λx hx=>(mx x hx).2,λH15 s15=>?_⟩;have V15:=V13.same s15;have W15:=W13.same s15;rw[mf];refine⟨_,rfl,_,rfl,.lst ((us.map (·.2)).map dW),.lst ((us.map (·.2)).map dW),rp _ hd _ V15,rp _ r _ W15,dp,_,rfl,HI (λ_=>?_) (λh=>absurd (Lg _) h)⟩;refine⟨_,rfl,_,"int",rfl,.int _,_,rfl,Hr ?_⟩;refine⟨_,rfl,_,rfl,.int due,.int due,(by rw[Hi]<;>rfl),(by rw[Hi]<;>rfl),(by simp[ID]),?_⟩;rw[show HE (.int due) (.int due)=true from Lg _];exact q _
end
open PySem.W (nsIn mg_of mg_none_of fnOf keepIn codeIn)
abbrev dF(n:Str)(s:Stmt):=fnOf n n (JI s) (J8 s) (Hy s) .none
theorem IZ{st:Stmt}{f:Addr}{fd:BA}{p0:Str}(F:Fun K x x st f fd)(h:∀(kV doc pm:Value)(an:Option Addr)(cdv ct u0:Value),bindArgs (fnOf x x (JI st) (J8 st) (Hy st) .none kV doc pm an cdv ct) ⟨[u0],[]⟩=pure [(p0,u0)]:=by intros;rfl):Binds K fd [p0] []:=
 F.binds λkV doc pm an cdv ct=>lS λu0=>l0 (h kV doc pm an cdv ct u0)
theorem JB{st:Stmt}{f:Addr}{fd:BA}{p0 p1:Str}(F:Fun K x x st f fd)(h:∀(kV doc pm:Value)(an:Option Addr)(cdv ct u0 u1:Value),bindArgs (fnOf x x (JI st) (J8 st) (Hy st) .none kV doc pm an cdv ct) ⟨[u0,u1],[]⟩=pure [(p0,u0),(p1,u1)]:=by intros;rfl):Binds K fd [p0,p1] []:=
 F.binds λkV doc pm an cdv ct=>lS λu0=>lS λu1=>l0 (h kV doc pm an cdv ct u0 u1)
theorem PB{st:Stmt}{f:Addr}{fd:BA}{p0 p1 p2:Str}(F:Fun K x x st f fd)(h:∀(kV doc pm:Value)(an:Option Addr)(cdv ct u0 u1 u2:Value),bindArgs (fnOf x x (JI st) (J8 st) (Hy st) .none kV doc pm an cdv ct) ⟨[u0,u1,u2],[]⟩=pure [(p0,u0),(p1,u1),(p2,u2)]:=by intros;rfl):Binds K fd [p0,p1,p2] []:=
 F.binds λkV doc pm an cdv ct=>lS λu0=>lS λu1=>lS λu2=>l0 (h kV doc pm an cdv ct u0 u1 u2)
structure KF(K:Ai)(x:Str)(st:Stmt)(f:Addr)(fd:BA):Prop where
 a:nsIn K AK x=some (some (.ref f))
 F:Fun K x x st f fd
structure KFD(K:Ai)(x:Str)(st:Stmt)(f:Addr)(fd:BA):Prop where
 a:nsIn K AK x=some (some (.ref f))
 F:FunD K x st f fd
section
variable{f:Addr}{fd:BA}(F:FunD K "how_many_pieces" NB f fd)
include F
theorem P9:Binds K fd ["wishes","fields"] []:=by
 obtain⟨oc,od,T,o,m,kV,doc,pm,an,cdv,ct,osl,rfl,lk,hcd,lt,ld⟩:=F.ex;intro s us hK hl;rw[Ch] at hl ⊢
 match us,hl with
 | [u1,u2],_=>exact Fv hK rfl lt ld rfl rfl
theorem P8:Binds K fd ["wishes","fields"] [.none]:=by
 obtain⟨oc,od,T,o,m,kV,doc,pm,an,cdv,ct,osl,rfl,lk,hcd,lt,ld⟩:=F.ex;intro s us hK hl;have h1:us.length=1:=by simpa using hl
 match us,h1 with
 | [u1],_=>exact Fv hK rfl lt ld rfl rfl
theorem P7:KBinds K fd ["wishes","fields"] ["fields"] g2 g2:=by
 obtain⟨oc,od,T,o,m,kV,doc,pm,an,cdv,ct,osl,rfl,lk,hcd,lt,ld⟩:=F.ex;refine⟨λs us ws hK hl=>?_,Tg⟩
 match us,ws,hl with
 | [u1],[u2],_=>exact Fv hK rfl lt ld rfl rfl
 | [],_,hl=>exact absurd (show 0=2 from hl) (by decide)
 | [_],[],hl=>exact absurd (show 0=2 from hl) (by decide)
 | [_],_::_::_,hl=>exact absurd (show 0=2 from hl) (by decide)
 | _::_::_,_,hl=>exact absurd (show 0=2 from hl) (by decide)
end
theorem all_mk{l:Fo}{w:World}{mg:Str→Option Value}{fa f1 f2 f3 f4 f5 f6 f7 f8 f9 f10 f11 f12 f13 f14 f15 f16 f17 f18 f19 f20 f21 f22 f23 f24 f25 f26 f27 f28 f29 f30 f31 f32 f33 f34 f35 f36 f37 f38 f39:Addr}{g1 g2 g3 g4 g5 g6 g7 g8 g9 g10 g11 g12 g13 g14 g15 g16 g17 g18 g19 g20 g21 g22 g23 g24 g25 g26 g27 g28 g29 g30 g31 g32 g33 g34 g35 g36 g37 g38 g39:BA}(X:K.In h)(G:h.Ns AK mg)(hfa:mg "law"=some (.ref fa))
 (h1:KF K "is_whole" O6 f1 g1)
 (h2:KF K "is_end" O0 f2 g2)
 (h3:KF K "is_span" OC f3 g3)
 (h4:KF K "check_span" OL f4 g4)
 (h5:KF K "how_many_in" OZ f5 g5)
 (h6:KF K "span_shared" Ms f6 g6)
 (h7:KF K "is_field" Ni f7 g7)
 (h8:KF K "is_wish_part" OX f8 g8)
 (h9:KF K "fields_ascend" N3 f9 g9)
 (h10:KF K "is_wish" Nn f10 g10)
 (h11:KF K "are_wishes" N4 f11 g11)
 (h12:KF K "check_wishes" OW f12 g12)
 (h13:KF K "spans_by_field" NA f13 g13)
 (h14:KF K "wish_shared" Ny f14 g14)
 (h15:KF K "spans_beside" OY f15 g15)
 (h16:KF K "parts_beside_one" Pa f16 g16)
 (h17:KF K "parts_beside" N2 f17 g17)
 (h18:KF K "fields_of" N7 f18 g18)
 (h19:KF K "check_few" OQ f19 g19)
 (h20:KF K "how_many_of" O_ f20 g20)
 (h21:KF K "has_no_more" Nx f21 g21)
 (h22:KF K "filled_up" N8 f22 g22)
 (h23:KF K "how_many_wanted" Mq f23 g23)
 (h24:KF K "is_list_of_fields" Mr f24 g24)
 (h25:KF K "check_fields" OV f25 g25)
 (h26:KFD K "how_many_pieces" NB f26 g26)
 (h27:KF K "_law_well" Mn f27 g27)
 (h28:KF K "_law_take" O9 f28 g28)
 (h29:KF K "_law_name" Nj f29 g29)
 (h30:KF K "_law_fields" ON f30 g30)
 (h31:KF K "_law_base" O7 f31 g31)
 (h32:KF K "_law_whole" OR f32 g32)
 (h33:KF K "_law_box" OD f33 g33)
 (h34:KF K "_law_cut" OE f34 g34)
 (h35:KF K "_law_cut_up" OM f35 g35)
 (h36:KF K "_law_turned" N5 f36 g36)
 (h37:KF K "_law_size" O8 f37 g37)
 (h38:KF K "_law_wider" OS f38 g38)
 (h39:KF K "law" Kp f39 g39)
 {tML':Tok} (eML':nsIn K AK "MOST_LETTERS"=some (some (.int 8 tML')))
 {tMW':Tok} (eMW':nsIn K AK "MOST_WISHES"=some (some (.int 7 tMW')))
 {tMF':Tok} (eMF':nsIn K AK "MOST_FIELDS"=some (some (.int 3 tMF')))
 (z_len:nsIn K AK "len"=some none)
 (z_range:nsIn K AK "range"=some none)
 (z_isinstance:nsIn K AK "isinstance"=some none)
 (z_int:nsIn K AK "int"=some none)
 (z_bool:nsIn K AK "bool"=some none)
 (z_tuple:nsIn K AK "tuple"=some none)
 (z_list:nsIn K AK "list"=some none)
 (z_max:nsIn K AK "max"=some none)
 (z_min:nsIn K AK "min"=some none)
 (z_all:nsIn K AK "all"=some none)
 (z_zip:nsIn K AK "zip"=some none)
 (z_str:nsIn K AK "str"=some none)
 (z_dict:nsIn K AK "dict"=some none)
 (z_sorted:nsIn K AK "sorted"=some none)
 (z_set:nsIn K AK "set"=some none)
 (z_any:nsIn K AK "any"=some none)
 (z_sum:nsIn K AK "sum"=some none)
 (z_enumerate:nsIn K AK "enumerate"=some none)
 (z_repr:nsIn K AK "repr"=some none)
 (z_ord:nsIn K AK "ord"=some none)
 (z_chr:nsIn K AK "chr"=some none)
 (z_abs:nsIn K AK "abs"=some none)
 (z_reversed:nsIn K AK "reversed"=some none)
 :∃fd:BA,(∀(s:Shared)(v:Value),BindsTo s fd ⟨[v],[]⟩ [("script",v)])∧∀base:Heap,K.In base→base.Ns AK mg→FnOk l.prog w K mg base HJ 10 fa fd ["script"] (MU K):=by
 have e:=hfa.symm.trans (PySem.W.mg_of X G h39.a);cases e;obtain⟨_,⟨⟨oc,od,kV,dc,pm,an,cd,ct,sl,rfl,l',c'⟩,k'⟩⟩:=h39;have B:Bl mg:=⟨mg_none_of X G z_len,mg_none_of X G z_range,mg_none_of X G z_isinstance,mg_none_of X G z_int,mg_none_of X G z_bool,mg_none_of X G z_tuple,mg_none_of X G z_list,mg_none_of X G z_max,mg_none_of X G z_min,mg_none_of X G z_all,mg_none_of X G z_zip,mg_none_of X G z_str,mg_none_of X G z_dict,mg_none_of X G z_sorted,mg_none_of X G z_set,mg_none_of X G z_any,mg_none_of X G z_sum,mg_none_of X G z_enumerate,mg_none_of X G z_repr,mg_none_of X G z_ord,mg_none_of X G z_chr,mg_none_of X G z_abs,mg_none_of X G z_reversed⟩;refine⟨C8 "law" "law" (JI Kp) (J8 Kp) (Hy Kp) .none kV dc pm an cd ct,λs v=> .of_eq rfl,λbase _ _=>?_⟩;have QML':=mg_of X G eML';have QMW':=mg_of X G eMW';have QMF':=mg_of X G eMF';have G4:Γ0 l.prog w K mg base:=⟨_,_,XC B QML' QMW' QMF' h1.F,IZ h1.F,h1.F.2,mg_of X G h1.a⟩;have G5:Γ1 l.prog w K mg base:=⟨_,_,Wp B QML' QMW' QMF' h2.F G4,IZ h2.F,h2.F.2,mg_of X G h2.a⟩;have G6:Γ2 l.prog w K mg base:=⟨_,_,WH B QML' QMW' QMF' h3.F G5,IZ h3.F,h3.F.2,mg_of X G h3.a⟩;have G7:Γ3 l.prog w K mg base:=⟨_,_,XZ B QML' QMW' QMF' h4.F G6,IZ h4.F,h4.F.2,mg_of X G h4.a⟩;have GI:Γ4 l.prog w K mg base:=⟨_,_,Yk B QML' QMW' QMF' h5.F G7,IZ h5.F,h5.F.2,mg_of X G h5.a⟩;have GE:Γ5 l.prog w K mg base:=⟨_,_,Ym B QML' QMW' QMF' h6.F,JB h6.F,h6.F.2,mg_of X G h6.a⟩;have G8:Γ6 l.prog w K mg base:=⟨_,_,XB B QML' QMW' QMF' h7.F,IZ h7.F,h7.F.2,mg_of X G h7.a⟩;have GA:Γ7 l.prog w K mg base:=⟨_,_,Y7 B QML' QMW' QMF' h8.F G8 G6,IZ h8.F,h8.F.2,mg_of X G h8.a⟩;have G9:Γ8 l.prog w K mg base:=⟨_,_,Y2 B QML' QMW' QMF' h9.F,IZ h9.F,h9.F.2,mg_of X G h9.a⟩;have GB:Γ9 l.prog w K mg base:=⟨_,_,WI B QML' QMW' QMF' h10.F G9 GA,IZ h10.F,h10.F.2,mg_of X G h10.a⟩;have GC:Γ10 l.prog w K mg base:=⟨_,_,XY B QML' QMW' QMF' h11.F GB,IZ h11.F,h11.F.2,mg_of X G h11.a⟩;have GO:Γ11 l.prog w K mg base:=⟨_,_,Y6 B QML' QMW' QMF' h12.F GC,IZ h12.F,h12.F.2,mg_of X G h12.a⟩;have GD:Γ12 l.prog w K mg base:=⟨_,_,Yw B QML' QMW' QMF' h13.F,IZ h13.F,h13.F.2,mg_of X G h13.a⟩;have GF:Γ13 l.prog w K mg base:=⟨_,_,Yn B QML' QMW' QMF' h14.F GD GE,JB h14.F,h14.F.2,mg_of X G h14.a⟩;have GG:Γ14 l.prog w K mg base:=⟨_,_,Yz B QML' QMW' QMF' h15.F,JB h15.F,h15.F.2,mg_of X G h15.a⟩;have GH:Γ15 l.prog w K mg base:=⟨_,_,Y8 B QML' QMW' QMF' h16.F GF GG,JB h16.F,h16.F.2,mg_of X G h16.a⟩;have GM:Γ16 l.prog w K mg base:=⟨_,_,Yy B QML' QMW' QMF' h17.F GH,JB h17.F,h17.F.2,mg_of X G h17.a⟩;have GP:Γ17 l.prog w K mg base:=⟨_,_,Ya B QML' QMW' QMF' h18.F,IZ h18.F,h18.F.2,mg_of X G h18.a⟩;have GQ:Γ18 l.prog w K mg base:=⟨_,_,X_ B QML' QMW' QMF' h19.F,JB h19.F,h19.F.2,mg_of X G h19.a⟩;have GL:Γ19 l.prog w K mg base:=⟨_,_,Yl B QML' QMW' QMF' h20.F GI,IZ h20.F,h20.F.2,mg_of X G h20.a⟩;have GK:Γ20 l.prog w K mg base:=⟨_,_,Yj B QML' QMW' QMF' h21.F,JB h21.F,h21.F.2,mg_of X G h21.a⟩;have GJ:Γ21 l.prog w K mg base:=⟨_,_,Yb B QML' QMW' QMF' h22.F GD,JB h22.F,h22.F.2,mg_of X G h22.a⟩;have GR:Γ22 l.prog w K mg base:=⟨_,_,YC B QML' QMW' QMF' h23.F GJ GK GL GM,JB h23.F,h23.F.2,mg_of X G h23.a⟩;have GN:Γ23 l.prog w K mg base:=⟨_,_,Y9 B QML' QMW' QMF' h24.F G8,IZ h24.F,h24.F.2,mg_of X G h24.a⟩;have GS:Γ24 l.prog w K mg base:=⟨_,_,Y5 B QML' QMW' QMF' h25.F GN,IZ h25.F,h25.F.2,mg_of X G h25.a⟩;have Hc:Γ25 l.prog w K mg base:=⟨_,_,YB B QML' QMW' QMF' h26.F GO GP GQ GR GS,P9 h26.F,P8 h26.F,P7 h26.F,h26.F.2,mg_of X G h26.a⟩;have GX:Γ26 l.prog w K mg base:=⟨_,_,XH B QML' QMW' QMF' h27.F,IZ h27.F,h27.F.2,mg_of X G h27.a⟩;have GT:Γ27 l.prog w K mg base:=⟨_,_,XG B QML' QMW' QMF' h28.F,JB h28.F,h28.F.2,mg_of X G h28.a⟩;have GU:Γ28 l.prog w K mg base:=⟨_,_,XE B QML' QMW' QMF' h29.F GT,JB h29.F,h29.F.2,mg_of X G h29.a⟩;have GY:Γ29 l.prog w K mg base:=⟨_,_,Yu B QML' QMW' QMF' h30.F GU GT,JB h30.F,h30.F.2,mg_of X G h30.a⟩;have GV:Γ30 l.prog w K mg base:=⟨_,_,XD B QML' QMW' QMF' h31.F GT,IZ h31.F,h31.F.2,mg_of X G h31.a⟩;have Hd:Γ31 l.prog w K mg base:=⟨_,_,Yc B QML' QMW' QMF' h32.F,IZ h32.F,h32.F.2,mg_of X G h32.a⟩;have GZ:Γ32 l.prog w K mg base:=⟨_,_,WJ B QML' QMW' QMF' h33.F GT GV,PB h33.F,h33.F.2,mg_of X G h33.a⟩;have GW:Γ33 l.prog w K mg base:=⟨_,_,WK B QML' QMW' QMF' h34.F GT GV,JB h34.F,h34.F.2,mg_of X G h34.a⟩;have G_:Γ34 l.prog w K mg base:=⟨_,_,Yt B QML' QMW' QMF' h35.F GT GW,PB h35.F,h35.F.2,mg_of X G h35.a⟩;have Hb:Γ35 l.prog w K mg base:=⟨_,_,Yv B QML' QMW' QMF' h36.F GT,JB h36.F,h36.F.2,mg_of X G h36.a⟩;have Ha:Γ36 l.prog w K mg base:=⟨_,_,XF B QML' QMW' QMF' h37.F,IZ h37.F,h37.F.2,mg_of X G h37.a⟩;have He:Γ37 l.prog w K mg base:=⟨_,_,Yd B QML' QMW' QMF' h38.F GT,PB h38.F,h38.F.2,mg_of X G h38.a⟩;exact Tr B QML' QMW' QMF' (fun_mk (st:=Kp) l' c' k') GX GT GY GZ G_ Ha Hb Hc Hd He
theorem walk{l:Fo}{q:Bt}{loose:List Str}{XP:(Str→Option Value)→Heap→Prop}{YP:World→Heap→Prop}{d:DefRec}{K:Params→Ai}(hn:l.most=some 63)(hdf:d.params.defaults=[])
 (hY:∀(w:World)(h:Heap),YP w h→(K w.params).In h)
 (F:∀(w:World)(mg:Str→Option Value)(fa:Addr)(h:Heap),(K w.params).In h→h.Ns AK mg→mg d.name=some (.ref fa)→
  ∃fd:BA,(∀(s:Shared)(u:Value),BindsTo s fd ⟨[u],[]⟩ [("script",u)])∧∀base:Heap,(K w.params).In base→base.Ns AK mg→FnOk l.prog w (K w.params) mg base HJ 10 fa fd ["script"] (MU (K w.params))):
 PySem.W.WalkO q loose XP YP l.row.toRowW d [] (λf vs=>PySem.call f vs):=
 L2.walk_of (n:=63) (k:=10) (x:="script") (CX:=λ_=>HJ) (sp:=λw=>MU (K w.params)) hn (by decide) hdf ⟨rfl,by decide,by decide,rfl⟩ hY F (λ_ _ a ns hl _ hS=>⟨a,ns,rfl,hS,hl,λ_=>rfl⟩) λ_ _ _ _ _ z=>z
end K16
namespace PySem.W.Fast
theorem tw7640712975721592449:0=0:=rfl
theorem tw14072453899326784674:0=0:=rfl
theorem tw5171682977922663433:0=0:=rfl
theorem tw15119244932482718313:0=0:=rfl
theorem tw10513203707081217420:0=0:=rfl
theorem tw12258359385811977677:0=0:=rfl
theorem tw2886315609511545968:0=0:=rfl
theorem tw15004355690666208626:0=0:=rfl
theorem tw18146595996556632631:0=0:=rfl
theorem tw810097349118448357:0=0:=rfl
theorem tw7408218268168779040:0=0:=rfl
theorem tw15099423124734428576:0=0:=rfl
theorem tw8414419966945016416:0=0:=rfl
theorem tw421694828955141824:0=0:=rfl
theorem tw12230569098817839904:0=0:=rfl
theorem tw8068085763899461472:0=0:=rfl
theorem tw9255727184025655232:0=0:=rfl
theorem tw14988087905553838177:0=0:=rfl
theorem tw4983263738243825793:0=0:=rfl
theorem tw12803623597019984129:0=0:=rfl
theorem tw1040178145335306529:0=0:=rfl
theorem tw9783300116330104193:0=0:=rfl
theorem tw13190020530194702785:0=0:=rfl
theorem tw3305766087882025409:0=0:=rfl
theorem tw4958342866520225377:0=0:=rfl
theorem tw13841945226031223425:0=0:=rfl
theorem tw6232396277635341953:0=0:=rfl
theorem tw2347591372104296257:0=0:=rfl
theorem tw3015208110568844129:0=0:=rfl
theorem tw4682561418751977698:0=0:=rfl
theorem tw6496372714383264066:0=0:=rfl
theorem tw9151276812900110818:0=0:=rfl
theorem tw16373024255425214338:0=0:=rfl
theorem tw9113862714469522370:0=0:=rfl
theorem tw4490298063648927843:0=0:=rfl
theorem tw13597962138829081091:0=0:=rfl
theorem tw13348451156985316163:0=0:=rfl
theorem tw12240863445301756803:0=0:=rfl
theorem tw13804531832299292676:0=0:=rfl
theorem tw2267854902013767876:0=0:=rfl
theorem tw3865870159620029700:0=0:=rfl
theorem tw2034679998690478468:0=0:=rfl
theorem tw18228448312806223300:0=0:=rfl
theorem tw1066346354217610788:0=0:=rfl
theorem tw14316021709444642372:0=0:=rfl
theorem tw10864634908773420740:0=0:=rfl
theorem tw2526310853411137316:0=0:=rfl
theorem tw3328823659836902244:0=0:=rfl
theorem tw12837353420920961988:0=0:=rfl
theorem tw6551601097383139300:0=0:=rfl
theorem tw8954125748980161573:0=0:=rfl
theorem tw13564458889377238117:0=0:=rfl
theorem tw2267846925820000581:0=0:=rfl
theorem tw515875615339666757:0=0:=rfl
theorem tw18231934026281367941:0=0:=rfl
theorem tw208118408258108101:0=0:=rfl
theorem tw981905839233621861:0=0:=rfl
theorem tw3376554650211635077:0=0:=rfl
theorem tw2503009832429030373:0=0:=rfl
theorem tw5202928851342241094:0=0:=rfl
theorem tw16533052990169086598:0=0:=rfl
theorem tw10090531816100934310:0=0:=rfl
theorem tw16201474910498644678:0=0:=rfl
theorem tw3633641332486604710:0=0:=rfl
theorem tw17740805539497448422:0=0:=rfl
theorem tw9010451385720283271:0=0:=rfl
theorem tw10234912424152713447:0=0:=rfl
theorem tw16485441649343119655:0=0:=rfl
theorem tw16885983553981793767:0=0:=rfl
theorem tw16495078709401569799:0=0:=rfl
theorem tw13879798127073095207:0=0:=rfl
theorem tw12430286065533620839:0=0:=rfl
theorem tw6888152665004152647:0=0:=rfl
theorem tw10223268019948907688:0=0:=rfl
theorem tw5872746449363742056:0=0:=rfl
theorem tw8015035593475980648:0=0:=rfl
theorem tw17010308721941021032:0=0:=rfl
theorem tw12101929427606079976:0=0:=rfl
theorem tw9985863402584650312:0=0:=rfl
theorem tw2963688702777887496:0=0:=rfl
theorem tw11395072980029432616:0=0:=rfl
theorem tw13709401916356249416:0=0:=rfl
theorem tw9972185346283207528:0=0:=rfl
theorem tw3389035682842350729:0=0:=rfl
theorem tw14634409675013128393:0=0:=rfl
theorem tw15809874783153828041:0=0:=rfl
theorem tw4508341070364730569:0=0:=rfl
theorem tw3507298900608265513:0=0:=rfl
theorem tw14921081599381374473:0=0:=rfl
theorem tw3493700059985980937:0=0:=rfl
theorem tw1905393728297409353:0=0:=rfl
theorem tw1337165691793965226:0=0:=rfl
theorem tw15919991994739063978:0=0:=rfl
theorem tw4415138181484789962:0=0:=rfl
theorem tw9745963601294515434:0=0:=rfl
theorem tw12651659436163817066:0=0:=rfl
theorem tw9024010362635203178:0=0:=rfl
theorem tw12433988407779063626:0=0:=rfl
theorem tw16331439160895843178:0=0:=rfl
theorem tw2380695237615083402:0=0:=rfl
theorem tw14620849428721701899:0=0:=rfl
theorem tw3906921637160175691:0=0:=rfl
theorem tw5660730062275144779:0=0:=rfl
theorem tw9787160559045153899:0=0:=rfl
theorem tw5652714803264624843:0=0:=rfl
theorem tw9420846719900672427:0=0:=rfl
theorem tw15879984097043468747:0=0:=rfl
theorem tw4071000152298429548:0=0:=rfl
theorem tw1474500116730535084:0=0:=rfl
theorem tw10549712002565026060:0=0:=rfl
theorem tw1239687026643436844:0=0:=rfl
theorem tw8098909433138079180:0=0:=rfl
theorem tw14450356322232386060:0=0:=rfl
theorem tw18364837759752897100:0=0:=rfl
theorem tw9809626242900487884:0=0:=rfl
theorem tw13733985393595399884:0=0:=rfl
theorem tw13968059465078102796:0=0:=rfl
theorem tw6649665415279965996:0=0:=rfl
theorem tw7318785450238235564:0=0:=rfl
theorem tw3167104558681452460:0=0:=rfl
theorem tw16253283556227753005:0=0:=rfl
theorem tw3265197870805922893:0=0:=rfl
theorem tw8117262498819232909:0=0:=rfl
theorem tw11333344930588790125:0=0:=rfl
theorem tw8805152907807852941:0=0:=rfl
theorem tw15444162800972833357:0=0:=rfl
theorem tw941498127309710957:0=0:=rfl
theorem tw844137746408585869:0=0:=rfl
theorem tw1982666781199819405:0=0:=rfl
theorem tw15727732869450878605:0=0:=rfl
theorem tw17113534964837588685:0=0:=rfl
theorem tw11610403981279054573:0=0:=rfl
theorem tw14256890635537004269:0=0:=rfl
theorem tw8219414205228688141:0=0:=rfl
theorem tw13139714678839796589:0=0:=rfl
theorem tw16524528268140145517:0=0:=rfl
theorem tw3682552686010047437:0=0:=rfl
theorem tw9658548808529378253:0=0:=rfl
theorem tw5283662103253670990:0=0:=rfl
theorem tw4452003687389494382:0=0:=rfl
theorem tw9950677949967988910:0=0:=rfl
theorem tw1539049548984490190:0=0:=rfl
theorem tw133811408172221806:0=0:=rfl
theorem tw10598086204792067438:0=0:=rfl
theorem tw11971044082732963310:0=0:=rfl
theorem tw11652117897945869870:0=0:=rfl
theorem tw16880305785631656846:0=0:=rfl
theorem tw11888674652002299919:0=0:=rfl
theorem tw14472184295635304559:0=0:=rfl
theorem tw3665911807823798767:0=0:=rfl
theorem tw4653834318237101551:0=0:=rfl
theorem tw1507379336701899503:0=0:=rfl
theorem tw4999992154212372367:0=0:=rfl
theorem tw7848807857796740496:0=0:=rfl
theorem tw11861333722516575632:0=0:=rfl
theorem tw8020360835396455920:0=0:=rfl
theorem tw10172313564090447472:0=0:=rfl
theorem tw4921230324028752688:0=0:=rfl
theorem tw11747835215454091088:0=0:=rfl
theorem tw17256100045989340112:0=0:=rfl
theorem tw7831953484379911377:0=0:=rfl
theorem tw9540425771830106417:0=0:=rfl
theorem tw16637648881969613425:0=0:=rfl
theorem tw15730372832559744881:0=0:=rfl
theorem tw1917431296789831537:0=0:=rfl
theorem tw15530166421041125361:0=0:=rfl
theorem tw9721347573654939666:0=0:=rfl
theorem tw16039489856651047090:0=0:=rfl
theorem tw89624254674643250:0=0:=rfl
theorem tw16219113183754040722:0=0:=rfl
theorem tw3547125735438624338:0=0:=rfl
theorem tw10983698534778200754:0=0:=rfl
theorem tw8061956846826387282:0=0:=rfl
theorem tw18052373820118640626:0=0:=rfl
theorem tw5300101303623987283:0=0:=rfl
theorem tw594334659638880339:0=0:=rfl
theorem tw7425652559240537203:0=0:=rfl
theorem tw7142899196205796531:0=0:=rfl
theorem tw17394487017986835923:0=0:=rfl
theorem tw17537705870789882355:0=0:=rfl
theorem tw9789887672991036019:0=0:=rfl
theorem tw4758856326309223091:0=0:=rfl
theorem tw4056462135009680083:0=0:=rfl
theorem tw6759422759359603667:0=0:=rfl
theorem tw1995724262921020403:0=0:=rfl
theorem tw982562853406282739:0=0:=rfl
theorem tw6540088336292652052:0=0:=rfl
theorem tw16502137468620656820:0=0:=rfl
theorem tw12036355476270157076:0=0:=rfl
theorem tw16889379278580532500:0=0:=rfl
theorem tw15085107091587253556:0=0:=rfl
theorem tw7704843286736089492:0=0:=rfl
theorem tw9305815282434697876:0=0:=rfl
theorem tw11846543637709032148:0=0:=rfl
theorem tw8366178289233358580:0=0:=rfl
theorem tw1832959059725765396:0=0:=rfl
theorem tw7254484057408851732:0=0:=rfl
theorem tw6298729829841701748:0=0:=rfl
theorem tw6968272805719881749:0=0:=rfl
theorem tw11392972485245106197:0=0:=rfl
theorem tw6467414556739914133:0=0:=rfl
theorem tw7114699403020982741:0=0:=rfl
theorem tw8886466015427936789:0=0:=rfl
theorem tw2280007049358852821:0=0:=rfl
theorem tw85029997836858165:0=0:=rfl
theorem tw17250452864563253109:0=0:=rfl
theorem tw1365163257531681717:0=0:=rfl
theorem tw1772567901336208341:0=0:=rfl
theorem tw5568105726132979798:0=0:=rfl
theorem tw13703257826884561174:0=0:=rfl
theorem tw1790821435078096246:0=0:=rfl
theorem tw7950604591248982422:0=0:=rfl
theorem tw11200385508183110102:0=0:=rfl
theorem tw10314458532522887670:0=0:=rfl
theorem tw17181632570109230646:0=0:=rfl
theorem tw3075524269436425814:0=0:=rfl
theorem tw3169575559735297718:0=0:=rfl
theorem tw6766108487389145878:0=0:=rfl
theorem tw12006039466978883382:0=0:=rfl
theorem tw3828852842574112630:0=0:=rfl
theorem tw17324441067901829014:0=0:=rfl
theorem tw18103975785186068374:0=0:=rfl
theorem tw2579010835561618422:0=0:=rfl
theorem tw2108832543289028727:0=0:=rfl
theorem tw103513013178168599:0=0:=rfl
theorem tw11238314930547377847:0=0:=rfl
theorem tw6174581664251128503:0=0:=rfl
theorem tw11688448279485317015:0=0:=rfl
theorem tw7578233749734370360:0=0:=rfl
theorem tw2415845427226784856:0=0:=rfl
theorem tw9757718212964643032:0=0:=rfl
theorem tw3944050980188599608:0=0:=rfl
theorem tw8100065679569475928:0=0:=rfl
theorem tw10975627897274476920:0=0:=rfl
theorem tw18311869918710219416:0=0:=rfl
theorem tw4868081454494710488:0=0:=rfl
theorem tw4862103305461215000:0=0:=rfl
theorem tw3503137602782696601:0=0:=rfl
theorem tw8028324305865576729:0=0:=rfl
theorem tw18280878277979019609:0=0:=rfl
theorem tw7622022795190831226:0=0:=rfl
theorem tw18314836565983638810:0=0:=rfl
theorem tw18343737853040208250:0=0:=rfl
theorem tw12332456444438602490:0=0:=rfl
theorem tw9443870615666638618:0=0:=rfl
theorem tw11933798263866023963:0=0:=rfl
theorem tw5286012105931572283:0=0:=rfl
theorem tw10637916010723660955:0=0:=rfl
theorem tw12686910152405941467:0=0:=rfl
theorem tw12710737742647335195:0=0:=rfl
theorem tw7613942759350717755:0=0:=rfl
theorem tw15877551571532783963:0=0:=rfl
theorem tw17092411789594022235:0=0:=rfl
theorem tw13351846985595914651:0=0:=rfl
theorem tw15265147057919585723:0=0:=rfl
theorem tw9806345090666950235:0=0:=rfl
theorem tw13833845158806955707:0=0:=rfl
theorem tw15234123364784116443:0=0:=rfl
theorem tw5073367799949800219:0=0:=rfl
theorem tw5515256958918302555:0=0:=rfl
theorem tw6629714442661185435:0=0:=rfl
theorem tw15025994921389885403:0=0:=rfl
theorem tw11704564035477720156:0=0:=rfl
theorem tw2070323741735927900:0=0:=rfl
theorem tw11018399048736440540:0=0:=rfl
theorem tw7077441116355867932:0=0:=rfl
theorem tw9602351514881761628:0=0:=rfl
theorem tw17864503711265430908:0=0:=rfl
theorem tw8041024658959485340:0=0:=rfl
theorem tw4186649312299297212:0=0:=rfl
theorem tw9607064854265835164:0=0:=rfl
theorem tw7613053327908584252:0=0:=rfl
theorem tw9858872117192613724:0=0:=rfl
theorem tw13108407653003513788:0=0:=rfl
theorem tw12859014857385804989:0=0:=rfl
theorem tw9161980903095279997:0=0:=rfl
theorem tw10636158281517833597:0=0:=rfl
theorem tw618141849142130077:0=0:=rfl
theorem tw17517811209483240893:0=0:=rfl
theorem tw12340431960353942109:0=0:=rfl
theorem tw715089135383288605:0=0:=rfl
theorem tw14257106903596154749:0=0:=rfl
theorem tw6927177085005912094:0=0:=rfl
theorem tw7098891751999744510:0=0:=rfl
theorem tw11902255738245267134:0=0:=rfl
theorem tw9480398874474268542:0=0:=rfl
theorem tw14724349047228251102:0=0:=rfl
theorem tw10900498059424458047:0=0:=rfl
theorem tw14888531705637131647:0=0:=rfl
theorem tw15093576551540861311:0=0:=rfl
theorem tw16052523440646822335:0=0:=rfl
theorem tw4290453760994966047:0=0:=rfl
theorem tw14013648531296702047:0=0:=rfl
theorem tw17369651559741954719:0=0:=rfl
theorem tw13109628510666513119:0=0:=rfl
theorem tw5277569357959201599:0=0:=rfl
theorem tw12041362237672397663:0=0:=rfl
theorem tw11643099892790045535:0=0:=rfl
theorem tw598539166719937471:0=0:=rfl
theorem tw8894469367885735903:0=0:=rfl
end PySem.W.Fast
open PySem PySem.W PyProof.Rows
set_option hygiene false in
local macro_rules | `(tactic| walk_at "kF")=> `(tactic| (refine' K16.KF.mk ?a (L2.fun_mk ?l ?c ?k);(case a=>k_is);(case l=>k_is);(case c=>k_is);(case k=>k_is)))
set_option hygiene false in
local macro_rules | `(tactic| walk_at "kD")=> `(tactic| (refine' K16.KFD.mk ?a (L2.funD_mk ?l ?c ?k ?t);(case a=>k_is);(case l=>k_is);(case c=>k_is);(case k=>k_is);(case t=>k_is)))
set_option maxRecDepth 100000 in
set_option maxHeartbeats 0 in
theorem PySem.Challenge.cw_newsways_k16_whole_counted_cut_up_holds : PySem.Challenge.rw_newsways_k16_whole_counted_cut_up.Holds := by
 w_on;o_law;k_head;(case hw=>w_witness2)
 k_fill
 refine K16.walk (l:=PySem.Challenge.rw_newsways_k16_whole_counted_cut_up) rfl rfl (λw h Y=>PySem.W.kIn_of Y) ?F
 case F=>
  intro w mg fa h KX G hmg;refine' K16.all_mk KX G hmg ?h1 ?h2 ?h3 ?h4 ?h5 ?h6 ?h7 ?h8 ?h9 ?h10 ?h11 ?h12 ?h13 ?h14 ?h15 ?h16 ?h17 ?h18 ?h19 ?h20 ?h21 ?h22 ?h23 ?h24 ?h25 ?h26 ?h27 ?h28 ?h29 ?h30 ?h31 ?h32 ?h33 ?h34 ?h35 ?h36 ?h37 ?h38 ?h39 ?eML' ?eMW' ?eMF'  ?z_len ?z_range ?z_isinstance ?z_int ?z_bool ?z_tuple ?z_list ?z_max ?z_min ?z_all ?z_zip ?z_str ?z_dict ?z_sorted ?z_set ?z_any ?z_sum ?z_enumerate ?z_repr ?z_ord ?z_chr ?z_abs ?z_reversed
  (case h1=>walk_at "kF");(case h2=>walk_at "kF");(case h3=>walk_at "kF");(case h4=>walk_at "kF");(case h5=>walk_at "kF");(case h6=>walk_at "kF");(case h7=>walk_at "kF");(case h8=>walk_at "kF");(case h9=>walk_at "kF");(case h10=>walk_at "kF");(case h11=>walk_at "kF");(case h12=>walk_at "kF");(case h13=>walk_at "kF");(case h14=>walk_at "kF");(case h15=>walk_at "kF");(case h16=>walk_at "kF");(case h17=>walk_at "kF");(case h18=>walk_at "kF");(case h19=>walk_at "kF");(case h20=>walk_at "kF");(case h21=>walk_at "kF");(case h22=>walk_at "kF");(case h23=>walk_at "kF");(case h24=>walk_at "kF");(case h25=>walk_at "kF");(case h26=>walk_at "kD");(case h27=>walk_at "kF");(case h28=>walk_at "kF");(case h29=>walk_at "kF");(case h30=>walk_at "kF");(case h31=>walk_at "kF");(case h32=>walk_at "kF");(case h33=>walk_at "kF");(case h34=>walk_at "kF");(case h35=>walk_at "kF");(case h36=>walk_at "kF");(case h37=>walk_at "kF");(case h38=>walk_at "kF");(case h39=>walk_at "kF")
  (case eML'=>k_is);(case eMW'=>k_is);(case eMF'=>k_is)
  (case z_len=>k_is);(case z_range=>k_is);(case z_isinstance=>k_is);(case z_int=>k_is);(case z_bool=>k_is);(case z_tuple=>k_is);(case z_list=>k_is);(case z_max=>k_is);(case z_min=>k_is);(case z_all=>k_is);(case z_zip=>k_is);(case z_str=>k_is);(case z_dict=>k_is);(case z_sorted=>k_is);(case z_set=>k_is);(case z_any=>k_is);(case z_sum=>k_is);(case z_enumerate=>k_is);(case z_repr=>k_is);(case z_ord=>k_is);(case z_chr=>k_is);(case z_abs=>k_is);(case z_reversed=>k_is)
