import PyProof.Rows.All
import Wide.All
import OpenK.AllK
import Wide.FinOn
import Lean
import PyProof.EqAt
import PyProof.EqKinds
import PyProof.TupleCall
import PyProof.NeKinds
import KE.IntBitsLaws
import PyProof.StationsW
import PyProof.RulesAs
import OpenK.KRaise
import PyProof.ExcInit
import PyProof.ExcBaseAll.ValueError
import PyProof.PassesOwn
import PyProof.NsDelKeeps
import PyProof.Rows.Catch
import PyProof.FString
import PyProof.Rows.FStr
import PyProof.ExcArgs
import PyProof.ExcAttrAll.ValueError
import PyProof.ExcStr
import PyProof.ExcStrCall
import PyProof.ExcStrAll.ValueError
import PyProof.StrWalks
import PyProof.FString5
import PyProof.ConsumeWalk
import PyProof.DictCompW
import PyProof.ZipIter
import PyProof.EnumMake
import PyProof.Rows.SetFrom
import KE.KRevSl
import PyProof.FitsBits
import PyProof.Rows.SortWalk
import PyProof.ListRange
import PyProof.ReprRoads
import PyProof.ReprText
import PyProof.CallFns
import KE.KEqDict
import PyProof.AutoListH
import PyProof.AttrMissHeap
import PyProof.ListNew
import PyProof.DictUpdate
import PyProof.Rows.SortStr
import PyProof.StrBlockL
import PyProof.JoinWalk
import PyProof.Rows.StrMeet
import PyProof.DictWalks
import PyProof.SliceStr2
import PyProof.StrOps2
import PyProof.Rows.StrMadeLen
import PyProof.Rows.StrNews2
import KE.KIntText
import PyProof.StrLawsIn
import PyProof.StrLawsRepr
import OpenK.KTop
import PySem.Challenge.RW_newsways_k79_whole_texts_of_no_wish
open Array renaming length_toList → Ar, getElem?_eq_getElem → AT, getElem?_toList → BN, getElem?_eq_some_iff → Dl, getElem?_eq_none → DB, size_append → E9, toList_append → FF, toList_inj → FK
open Bool renaming false_ne_true → Aw, and_eq_true → A2, false_eq_true → Cv, not_eq_true' → CB, and_false → CG, true_and → DF, eq_iff_iff → DQ, false_and → Ek, eq_false_iff → EA
open False renaming elim → B_
open Function renaming comp_def → D8
open Int renaming toNat_natCast → AI, eq_ofNat_of_zero_le → BH, emod_lt_of_pos → C4, emod_nonneg → CY, mul_le_mul_of_nonneg_left → CZ, mul_le_mul → Ft, mul_nonneg → Fu
open List renaming length_map → Ab, mem_singleton → Ai, map_append → Aj, size_toArray → Al, mem_cons → Au, length_cons → Ax, getElem?_map → Ay, mem_cons_of_mem → Az, length_append → A3, mem_map → A4, mem_append → A6, map_cons → A7, mem_of_getElem? → AA, mem_append_right → AB, mem_cons_self → AD, length_take → AE, take_of_length_le → AJ, getElem?_eq_some_iff → AM, getElem?_eq_getElem → AQ, range → AY, getD_eq_getElem?_getD → Bs, not_mem_nil → Bx, length → BC, mem_map_of_mem → BM, lookup_cons → BQ, take_length → BR, Nodup → Ca, mem_range → Cc, mem_filterMap → Cd, replicate → Ce, map_singleton → Cf, mem_append_left → Cg, length_eq_zero_iff → Ck, filterMap_cons → Cm, filter_cons → Cq, all_eq_true → Cs, filter_append → Cw, map_map → C2, length_filter_le → C6, all_cons → C9, length_range → CC, length_drop → CK, map_nil → CO, toList_toArray → CQ, eraseIdx_cons_succ → CT, filterMap → Db, any_cons → Dk, contains_cons → Dt, getElem?_cons_succ → D2, range_succ_eq_map → D9, getElem_mem → DG, length_replicate → DL, length_singleton → DM, getElem?_eq_none → DO, getElem?_set_ne → DP, append_nil → DR, nodup_cons → DS, length_nil → DT, mem_of_mem_drop → Ea, mem_of_mem_take → Eb, getElem?_range → Eh, length_pos_iff → Ej, mem_of_mem_eraseIdx → ER, of_mem_zip → EY, forIn_cons → Fa, getElem?_set_self → Fc, forIn_nil → Fq, getElem?_toArray → Fx, length_eraseIdx → F8, getElem?_of_mem → F9, replicate_succ' → FA, replicate_succ → FE, map_congr_left → FG, all_eq_false → FJ
open Nat renaming le_refl → Ae, ne_of_lt → As, lt_of_lt_of_le → Av, le_trans → A8, zero_le → AX, le_of_lt → Bb, lt_trans → BA, lt_succ_self → BS, ne_of_gt → CH, lt_irrefl → CU, le_add_right → Dh, le_succ → Dm, mul_le_mul → Dy, not_lt_zero → DV, lt_succ_of_lt → EB
open Ne renaming symm → By
open Option renaming isSome_iff_exists → CI, some_ne_none → Dn, bind_eq_some_iff → D1, getD_none → EH
open Option.some renaming inj → Am
open PyProof.Rows renaming slot_tuple_getitem → Br, callWith_type1 → Cu, callWith_builtin1 → CW, subscriptTail_builtinR → Fe
open PyProof.Rows.F renaming plain_set_update_loop → C1, entry_set_update_loop → Dx
open PySem renaming wpAny_bind → Aa, wpAny_pure → Ac, sizeLine → Ag, mainGlobals → Ak, starEach → A1, wpAny_mono → A9, wpAny_loadPart' → AN, bootBuiltins → AO, wpAny_field → AV, wpAny_call_entry → AZ, wpAny_newObj_type → Ba, wpAny_callSpecial?_slot → Be, FuncData → Bf, compareOp → Bj, Program → Bk, wpAny_holding → Bn, wpAny_truthy_bool → Bo, wpAny_loadPart_at → Bp, Around → Bq, wpAny_setField → Bt, wpAny_seqItems → B0, codeAny_builtin → BD, cellsFrom → BF, sysModules → BI, wpAny_setState_of → BL, wpAny_Call_Name_kw → BP, SetTable → BU, codeAny_mono → Ch, codeAny_call_builtin → Ci, wpAny_isSubtype_exc → Cn, wpAny_setField_rec → Cy, wpAny_richCompare_same_room → Cz, wpAny_passesOwn → C5, plainId_quiet → CA, wpAny_typeOf → CL, mem_of_lookup → CP, wpAny_call → Df, wpAny_rule → Dg, wpAny_standAt → Dj, wpAny_execs_nil → Do, letOwnedTupleGo → Dp, wpAny_comprehension_free → Ds, foldedSetIterable → D3, wpAny_dictEntries → D7, wpAny_onRaise → DD, wpAny_attempt → DE, wpAny_isInstance → DH, wpAny_askSetting → DJ, wpAny_updateSeq_pair → DZ, wpAny_setEntries_of → Eg, wpAny_pyIter_tuple → Eo, scanBound → Eu, wpAny_pyIter_list → E7, wpAny_sequenceKey → E8, passOn → EL, wpAny_updateSeq → EZ, codeAny_of_tree → Fb, wpAny_of_eq → Ff, wpAny_letGo → Fg, codeAny_compStart_list → Fh, wpAny_listPart → Fp, intText? → Fz, wpAt_of_wpAny → FD
open PySem.Around renaming in1_units → A_, under_plainId → Bw, under → EF
open PySem.AutoSeq1 renaming sub_list_list → Fl
open PySem.Builtin.Dict renaming dictSlotArgs → EE, samePairs → Fm
open PySem.Builtin.Getset_descriptor renaming descrCheckInstance → Fj, descrNameAndClass → Fn, descrGetter → FH, descrGet → FI
open PySem.Builtin.Int renaming intBits → Ef
open PySem.Builtin.List renaming listSameRef → CN, listSubscript? → Es, listLengthHint → Ev, listExtendWith → Ew, listAllItems → ED, listTooLong → EI
open PySem.Builtin.Slice renaming slicePlaces → CD, sliceAdjust → Dq, sliceApplied → E2
open PySem.Builtin.SmallTypes renaming nextOf → Bi, ownedTupleIsFree → BW, ownedTupleHandOut → Dw
open PySem.Builtin.Str renaming strSliceIndices → AG, occurrences → D0
open PySem.Builtin.Tuple renaming tupleExact → CM, tupleCompareSizes → CS, tupleItemsOf → E3
open PySem.Calls renaming Name_function_global → Ez
open PySem.Code renaming quiet_builtin → Du
open PySem.F renaming plainAttrs_str → A5, slot_str_partition → Bc, type_str_partition → Bd, plainAttrs_list → BX, slot_tuple_iterator_next → Cb, slot_str_split → Co, slot_str_getitem → C3, slot_str_join → C7, type_str_join → C8, slot_zip_next → C_, args_tuple_iterator_next_1 → D6, entry_tuple_iterator_next → DA, type_str_split → DC, args_str_getitem_2 → D_, entry_str_getitem → Ei, args_str_split_2 → Ex, excBase_ValueError → E5, entry_str_split → EC, args_tuple_add_2 → EG, slot_list_append → EM, type_list_append → EN, slot_list_insert → EO, type_list_insert → EQ, entry_tuple_add → ES, args_zip_next_1 → ET, plain_list_iadd → EU, slot_tuple_add → Fd, entry_zip_next → Fk, plain_set_new → Fv, slot_set_iter → Fw, slot_list_pop → F5, type_list_pop → F6, slot_dict_eq → F7
open PySem.Heap renaming get?_push_of_some → Ad, lt_size → Ao, get?_push_size → Aq, size_push → AW, get?_update_self → Bz, get?_update_other → BJ, SameBut → BO, get?_none_of_le → De, FlyingW → DW
open PySem.Heap.SameBut renaming update → AU
open PySem.Obj renaming mapSeq → CF, mapFields → CV, data_mapFields → Dv, isFreed_of_fields → Fs
open PySem.PassesOwn renaming never → BY
open PySem.PyData renaming shown → AF, depth → AK, shownAll → AS, showable → Bv, showableAll → BG, depthAll → Cj, depthKv → Dc, shownKv → Dz, hasDict → En, showableKv_split → EW
open PySem.ReadAtMost renaming cons → Ec
open PySem.ReprK renaming of_reads → Em
open PySem.SeqAt.EqAt renaming same → DU
open PySem.SeqAt.RcAt renaming lists_lengths → EJ
open PySem.SeqAt.RcNeAt renaming lists_lengths → E4
open PySem.SetTable renaming grown → Cr, below → Da
open PySem.Str renaming ofString → BZ, join → DI, empty → DK
open PySem.StrLaws renaming joinFits → EK, found_one → EV, glued_eq_join → Fy
open PySem.Txt renaming partition → Ah, split → AR, rpartition → BK, join → Di
open PySem.Value renaming isStrOf → Ey, isStrOf_shape → FB
open PySem.W renaming Frag → Af, mroIn → An, kitOne → A0, mg_of → AC, typeIn → AH, nsIn → AL, hideAll → Bm, kia_one → Bu, kitAny → BB, kia_tup → BE, findIn → BV, keepIn → Cp, cellsFrom_some → Ct, fnOf → CJ, hideAll_none → Dd, of_hideAll → Dr, kitx_list → D4, kitx_dict → D5, hideAll_get → Ed, codeIn → El, callWith_K → Ep, methodObj → E6, instObj → EX, OpenLaw → E_, lookIn → Fo
open PySem.W.KF renaming type_class → DN
open PySem.W.KFB renaming if_not → Et
variable{s:PySem.Shared}{w:PySem.World}{A:PySem.Around}{E:PySem.Value→PySem.Shared→Prop}{K:Af}{pins:List (PySem.Addr×PySem.Obj)}{prog:PySem.Program}{pos:PySem.Pos}{h:PySem.Heap}{a:PySem.Addr}{b:PySem.Addr}{i:Nat}{n:Nat}{k:Nat}{us:List PySem.Value}{P:PySem.Program}{u:PySem.Value}{e:PySem.Expr}{scope:PySem.Scope}
open PySem PySem.Spec PyProof.Rows
set_option Elab.async false
set_option linter.all false
set_option maxRecDepth 100000
namespace L2
abbrev HP:=Sum Int Str
def Lf:HP→Value→Bool
 | .inl k,v=>Value.isInt k v
 | .inr x,v=>Ey x v
def Qp(w:World):HP→Int
 | .inl k=>hashInt k
 | .inr x=>hashStr w x
theorem Kh:∀{k:HP}{v:Value},Lf k v=true→(∃i t,k=Sum.inl i∧v=Value.int i t)∨(∃x t,k=Sum.inr x∧v=Value.str x t)
 | .inl i,v,h=>by obtain⟨t,e⟩:=Value.isInt_shape (k:=i) (v:=v) h;exact .inl ⟨i,t,rfl,e⟩
 | .inr x,v,h=>by obtain⟨t,e⟩:=FB (x:=x) (v:=v) h;exact .inr ⟨x,t,rfl,e⟩
theorem X9(i:Int)(t:Tok):Lf (.inl i) (.int i t)=true:=by simp[Lf,Value.isInt]
theorem XA(x:Str)(t:Tok):Lf (.inr x) (.str x t)=true:=by simp[Lf,Ey]
theorem VO(a b:Int):decide ((Sum.inl a:HP)=Sum.inl b)=(a==b):=by
 by_cases e:a=b
 · subst e;simp
 · have h:¬(Sum.inl a:HP)=Sum.inl b:=λq=>e (Sum.inl.inj q);rw[decide_eq_false h];exact(beq_eq_false_iff_ne.mpr e).symm
theorem VR(a b:Str):decide ((Sum.inr a:HP)=Sum.inr b)=decide (a=b):=by
 by_cases e:a=b
 · subst e;simp
 · have h:¬(Sum.inr a:HP)=Sum.inr b:=λq=>e (Sum.inr.inj q);rw[decide_eq_false h,decide_eq_false e]
theorem VP(a:Int)(b:Str):decide ((Sum.inl a:HP)=Sum.inr b)=false:=decide_eq_false (λq=>nomatch q)
theorem VQ(a:Str)(b:Int):decide ((Sum.inr a:HP)=Sum.inl b)=false:=decide_eq_false (λq=>nomatch q)
def Ke(prog:Bk)(w:World):PySem.KeyKind prog w HP where
 is:=Lf
 hash:=Qp w
 inj:=λv a b ha hb=>by
  rcases Kh ha with⟨i,t,rfl,rfl⟩ | ⟨x,t,rfl,rfl⟩
  · rcases Kh hb with⟨j,u,rfl,e⟩ | ⟨y,u,rfl,e⟩
    · injection e with e1 _;rw[e1]
    · exact nomatch e
  · rcases Kh hb with⟨j,u,rfl,e⟩ | ⟨y,u,rfl,e⟩
    · exact nomatch e
    · injection e with e1 _;rw[e1]
 byValue:=λk v h=>by rcases Kh h with⟨i,t,rfl,rfl⟩ | ⟨x,t,rfl,rfl⟩<;>rfl
 pyHash:=λhv h=>by
  rcases Kh hv with⟨i,t,rfl,rfl⟩ | ⟨x,t,rfl,rfl⟩
  · exact wpAny_pyHash_int h
  · exact wpAny_pyHash_str h
 eqBool:=λhu hv h=>by
  rcases Kh hu with⟨i,t,rfl,rfl⟩ | ⟨x,t,rfl,rfl⟩
  · rcases Kh hv with⟨j,u,rfl,rfl⟩ | ⟨y,u,rfl,rfl⟩
    · rw[VO] at h;exact wpAny_eqBool_int h
    · rw[VP] at h;exact SeqAt.EqAt.int_str i t y u _ _ _ _ h
  · rcases Kh hv with⟨j,u,rfl,rfl⟩ | ⟨y,u,rfl,rfl⟩
    · rw[VQ] at h;exact SeqAt.EqAt.str_int x t j u _ _ _ _ h
    · rw[VR] at h;exact wpAny_eqBool_str h
 «strs»:=λk x t v h=>by
  rcases Kh h with⟨i,u,rfl,e⟩ | ⟨y,u,rfl,e⟩
  · exact nomatch e
  · injection e with e1 _
    subst e1;cases v<;>rfl
theorem Zb(prog:Bk)(w:World)(i:Int)(t:Tok):(Ke prog w).is (.inl i) (.int i t)=true:=X9 i t
theorem YC(prog:Bk)(w:World)(x:Str)(t:Tok):(Ke prog w).is (.inr x) (.str x t)=true:=XA x t
inductive V where
 | non | bl (b:Bool) | int (i:Int) | str (x:Str) | byt (b:Array UInt8) | flt (b:UInt64) | ref (a:Addr) | ty (n:String)
 deriving DecidableEq
def RelV:V→Value→Prop
 | .non,u=>u=Value.none
 | .bl b,u=>u=Value.bool b
 | .int i,u=>∃t,u=Value.int i t
 | .str x,u=>∃t,u=Value.str x t
 | .byt b,u=>∃t,u=Value.bytes b t
 | .flt b,u=>∃t,u=Value.float b t
 | .ref a,u=>u=Value.ref a
 | .ty n,u=>u=Value.type n
abbrev Vals:List V→List Value→Prop:=Paired RelV
theorem Vals.length{xs:List V}(r:Vals xs us):xs.length=us.length:=Paired.length r
theorem Vals.get:∀{xs:List V}{us:List Value}{i:Nat}{x:V},Vals xs us→xs[i]?=some x→∃u,us[i]?=some u∧RelV x u
 | _,_,_,_,.nil,e=>by simp at e
 | _,_,0,_,.cons r _,e=>by simp at e;subst e;exact⟨_,rfl,r⟩
 | _,_,i+1,x,.cons _ t,e=>by obtain⟨u,h1,h2⟩:=Vals.get (i:=i) (x:=x) t (by simpa using e);exact⟨u,by simpa using h1,h2⟩
theorem Vals.set{x:V}(r:RelV x u):∀{xs:List V}{us:List Value}(i:Nat),Vals xs us→Vals (xs.set i x) (us.set i u)
 | _,_,_,.nil=> .nil
 | _,_,0,.cons _ t=> .cons r t
 | _,_,i+1,.cons q t=> .cons q (Vals.set r i t)
theorem Vals.append:∀{xs ys:List V}{us ws:List Value},Vals xs us→Vals ys ws→Vals (xs++ys) (us++ws)
 | _,_,_,_,.nil,s=>s
 | _,_,_,_,.cons r t,s=> .cons r (Vals.append t s)
theorem Vals.take:∀{xs:List V}{us:List Value}(n:Nat),Vals xs us→Vals (xs.take n) (us.take n)
 | _,_,0,_=> .nil
 | _,_,_+1,.nil=> .nil
 | _,_,n+1,.cons r t=> .cons r (Vals.take n t)
theorem Vals.drop:∀{xs:List V}{us:List Value}(n:Nat),Vals xs us→Vals (xs.drop n) (us.drop n)
 | _,_,0,r=>r
 | _,_,_+1,.nil=> .nil
 | _,_,n+1,.cons _ t=>Vals.drop n t
def L7:Option V→Option Value→Prop
 | some v,some u=>RelV v u
 | none,none=>True
 | _,_=>False
def KV{κ:Type}:List (κ×V)→List (κ×Value)→Prop:=Paired λ(p:κ×V)(q:κ×Value)=>p.1=q.1∧RelV p.2 q.2
def kV:HP→V
 | .inl i=> .int i
 | .inr x=> .str x
inductive HO where
 | lst (xs:List V)
 | tup (xs:List V)
 | dK (kvs:List (HP×V)) | dT (kvs:List (List HP×V))
 | set (S:Int→Bool) (n:Nat)
 | ins (C dx:Addr) (fs:List (Str×V))
 | own (x:Addr)
 | xd (fs:List (Str×V))
 | met (f x:Addr)
 | rng (lo hi:Int)
 | frz (o:Obj) (u:HO)
 | tbl (ps:Array Value)
 | ext (φ:Heap→Prop)
def IsTupP(h:Heap)(a:Addr)(items:Array Value):Prop:=∃o,h.get? a=some o∧o.cls= .type "tuple"∧o.dict=none∧∃n,o.data= .seq items n
theorem IsTupP.tup{items:Array Value}(x:IsTupP h a items):IsTup h a items:=let⟨o,h1,h2,_,h3⟩:=x;⟨o,h1,h2,h3⟩
theorem IsTupP.new(h:Heap)(items:Array Value):IsTupP (h.push {cls:= .type "tuple",data:= .seq items}) h.objs.size items:=⟨_,Aq _ rfl,rfl,rfl,_,rfl⟩
abbrev Hp:=Addr→Option HO
def GZ(H:Hp)(a:Addr)(o:HO):Hp:=λb=>if b=a then some o else H b
theorem Ha{H:Hp}{o:HO}:GZ H a o a=some o:=by unfold GZ;rw[if_pos rfl]
theorem Hk{H:Hp}{o:HO}(h:b≠a):GZ H a o b=H b:=by unfold GZ;rw[if_neg h]
theorem Ow{H:Hp}{o u:HO}(h:H a=some o)(h':H b=some u)(d:o≠u):a≠b:=by intro e;subst e;rw[h] at h';exact d (Am h')
theorem IE{H:Hp}{o:HO}(h:H a=some o)(h':H b=none):a≠b:=by intro e;subst e;rw[h] at h';cases h'
section
variable(P:Bk)(w:World)
def ObjOk(H:Hp)(h:Heap)(a:Addr):HO→Prop
 | .lst xs=>xs.length≤Ag∧∃(its:List Value)(n:Nat),Vals xs its∧h.get? a=some {cls:= .type "list",data:= .seq its.toArray n}
 | .tup xs=>xs.length≤Ag∧∃its:List Value,Vals xs its∧IsTupP h a its.toArray
 | .dK kvs=>kvs.length≤Ag∧(a==BI)=false∧∃vs,KV kvs vs∧h.DictOf (Ke P w) a vs
 | .dT kvs=>kvs.length≤Ag∧(a==BI)=false∧∃xs:List (List HP×Addr×Value),
  Paired (λ(p:List HP×V)(q:List HP×Addr×Value)=>p.1=q.1∧H q.2.1=some (.tup (p.1.map kV))∧RelV p.2 q.2.2) kvs xs∧
  ∃o es ep,h.get? a=some o∧o.ExactDict∧o.data= .dict es ep∧es.toList=xs.map (entryOfKey (tupleKind (Ke P w)))∧(xs.map (·.1)).Nodup
 | .set S n=>h.SetOf (intKind P w) a S n
 | .ins C dx fs=>H dx=some (.own a)∧fs.length≤1000∧dx≠a∧h.get? a=some (EX C dx)∧
  ∃mA,h.Ns1 dx mA∧(∀f,L7 (fs.lookup f) (mA f))∧PySem.Within mA (fs.map (·.1))
 | .own _=>∃o,h.get? a=some o
 | .xd fs=>∃mA,h.Ns1 a mA∧∀f,L7 (fs.lookup f) (mA f)
 | .rng lo hi=>∃t u v,h.get? a=some {cls:= .type "range",data:= .fields #[.int lo t,.int hi u,.int 1 v]}
 | .frz o u=>h.get? a=some o∧ObjOk H h a u
 | .tbl ps=>h.get? a=some {cls:= .none,data:= .fields ps}
 | .met f x=>h.get? a=some (E6 (.ref f) (.ref x))
 | .ext φ=>φ h∧(∃o,h.get? a=some o)∧∀h1 h2:Heap,φ h1→(∀o,h1.get? a=some o→h2.get? a=some o)→φ h2
def HOk(H:Hp)(h:Heap):Prop:=∀a o,H a=some o→ObjOk P w H h a o
end
section
variable{H H':Hp}{h':Heap}{o:HO}
theorem ObjOk.lt(x:ObjOk P w H h a o):a<h.objs.size:=by
 cases o with
 | lst xs=>obtain⟨_,_,_,_,e⟩:=x;exact Ao e
 | tup xs=>obtain⟨_,_,_,p⟩:=x;exact(show IsTupP _ _ _ from p).tup.lt
 | dK kvs=>obtain⟨_,_,_,_,o,_,_,e,_⟩:=x;exact Ao e
 | dT kvs=>obtain⟨_,_,_,_,o,_,_,e,_⟩:=x;exact Ao e
 | set S n=>obtain⟨o,_,_,_,e,_⟩:=x;exact Ao e
 | ins C dx fs=>obtain⟨_,_,_,e,_⟩:=x;exact Ao e
 | own y=>obtain⟨_,e⟩:=x;exact Ao e
 | xd fs=>obtain⟨_,⟨_,_,_,e,_⟩,_⟩:=x;exact Ao e
 | rng lo hi=>obtain⟨_,_,_,e⟩:=x;exact Ao e
 | frz ob u=>obtain⟨e,_⟩:=x;exact Ao e
 | tbl ps=>exact Ao (show h.get? a=some _ from x)
 | met f y=>exact Ao (show h.get? a=some _ from x)
 | ext φ=>obtain⟨_,⟨_,e⟩,_⟩:=x;exact Ao e
theorem Paired.mapP{α β:Type}{F G:α→β→Prop}:∀{l₁:List α}{l₂:List β},Paired F l₁ l₂→(∀a b,F a b→G a b)→Paired G l₁ l₂
 | _,_,.nil,_=> .nil
 | _,_,.cons r t,f=> .cons (f _ _ r) (Paired.mapP t f)
theorem ObjOk.stay(x:ObjOk P w H h a o)(k:∀b u,(b=a∨H b=some (.own a))→h.get? b=some u→h'.get? b=some u)
 (ho:∀b,H b=some (.own a)→H' b=some (.own a)) (ht:∀b xs,H b=some (.tup xs)→H' b=some (.tup xs)):ObjOk P w H' h' a o:=by
 induction o with
 | lst xs=>obtain⟨z,its,n,r,e⟩:=x;exact⟨z,its,n,r,k _ _ (.inl rfl) e⟩
 | tup xs=>obtain⟨z,its,r,ob,e,c⟩:=x;exact⟨z,its,r,ob,k _ _ (.inl rfl) e,c⟩
 | dK kvs=>obtain⟨z,y,vs,r,ob,es,ep,e,c⟩:=x;exact⟨z,y,vs,r,ob,es,ep,k _ _ (.inl rfl) e,c⟩
 | dT kvs=> obtain⟨z,y,xs,r,ob,es,ep,e,c⟩:=x;exact⟨z,y,xs,Paired.mapP r λp q z=>⟨z.1,ht _ _ z.2.1,z.2.2⟩,ob,es,ep,k _ _ (.inl rfl) e,c⟩
 | set S n=>obtain⟨ob,es,ep,t,e,c⟩:=x;exact⟨ob,es,ep,t,k _ _ (.inl rfl) e,c⟩
 | ins C dx fs=> obtain⟨d,z,ne,e,mA,⟨od,es,ep,e2,c⟩,r⟩:=x;exact⟨ho _ d,z,ne,k _ _ (.inl rfl) e,mA,⟨od,es,ep,k _ _ (.inr d) e2,c⟩,r⟩
 | own y=>obtain⟨ob,e⟩:=x;exact⟨ob,k _ _ (.inl rfl) e⟩
 | xd fs=>obtain⟨mA,⟨od,es,ep,e,c⟩,r⟩:=x;exact⟨mA,⟨od,es,ep,k _ _ (.inl rfl) e,c⟩,r⟩
 | rng lo hi=>obtain⟨t,u,v,e⟩:=x;exact⟨t,u,v,k _ _ (.inl rfl) e⟩
 | frz ob u ih=>obtain⟨e,q⟩:=x;exact⟨k _ _ (.inl rfl) e,ih q⟩
 | tbl ps=> have e:h.get? a=some {cls:= .none,data:= .fields ps}:=x;show h'.get? a=some {cls:= .none,data:= .fields ps};exact k a _ (.inl rfl) e
 | met f y=> have e:h.get? a=some (E6 (.ref f) (.ref y)):=x;show h'.get? a=some (E6 (.ref f) (.ref y));exact k a _ (.inl rfl) e
 | ext φ=>obtain⟨p,⟨o,e⟩,st⟩:=x;exact⟨st _ _ p λo q=>k _ _ (.inl rfl) q,⟨o,k _ _ (.inl rfl) e⟩,st⟩
theorem HOk.lt(x:HOk P w H h)(e:H a=some o):a<h.objs.size:=(x a o e).lt
theorem HOk.fresh(x:HOk P w H h)(e:h.objs.size≤a):H a=none:=by
 cases q:H a with
 | none=>rfl
 | some u=>exact absurd (Av (x.lt q) e) (CU _)
theorem HOk.kept(x:HOk P w H h)(k:∀b u,h.get? b=some u→h'.get? b=some u):HOk P w H h':=λa o e=>
 (x a o e).stay (λb u _ q=>k b u q) (λ_ q=>q) λ_ _ q=>q
theorem HOk.laid(x:HOk P w H h)(k:∀b u,h.get? b=some u→h'.get? b=some u)(hp:h.objs.size≤a)(new:ObjOk P w (GZ H a o) h' a o):HOk P w (GZ H a o) h':=λb u e=>by
 have hn:=x.fresh hp;by_cases hb:b=a
 · subst hb;rw[Ha] at e;cases e;exact new
 · rw[Hk hb] at e;exact(x b u e).stay (λc v _ q=>k c v q) (λc q=>by rw[Hk (IE q hn)];exact q) λc xs q=>by rw[Hk (IE q hn)];exact q
end
def Rd(H:Hp)(a:Addr)(u:HO):Prop:=H a=some u∨∃o,H a=some (.frz o u)
theorem Rd.ok{H:Hp}{u:HO}(r:Rd H a u)(x:HOk P w H h):ObjOk P w H h a u:=by
 rcases r with r | ⟨o,r⟩
 · exact x a u r
 · obtain⟨_,q⟩:=x a _ r;exact q
def M_:Option HO→Prop
 | some (.lst _)=>True
 | some (.dK _)=>True
 | some (.dT _)=>True
 | some (.set _ _)=>True
 | some (.ins _ _ _)=>True
 | some (.ext _)=>True
 | _=>False
section
variable{H:Hp}{h':Heap}{x e:Addr}{o':HO}
theorem HOk.write(ok:HOk P w H h)(mu:M_ (H x))(he:e=x∨H e=some (.own x))(k:∀b u,b≠e→h.get? b=some u→h'.get? b=some u)(heo:∃u,h'.get? e=some u)
 (new:ObjOk P w (GZ H x o') h' x o'):HOk P w (GZ H x o') h':=λb u q=>by
 have nown:∀c y,H c=some (.own y)→c≠x:=λc y r z=>by subst z;rw[r] at mu;exact mu
 have ntup:∀c xs,H c=some (.tup xs)→c≠x:=λc xs r z=>by subst z;rw[r] at mu;exact mu
 by_cases hb:b=x
 · subst hb;rw[Ha] at q;cases q;exact new
 · rw[Hk hb] at q;by_cases hbe:b=e
   · have q':H b=some (.own x):=by
      rcases he with z | z
      · exact absurd (hbe.trans z) hb
      · rw[hbe];exact z
     rw[q] at q';cases q';obtain⟨v,hv⟩:=heo;exact⟨v,by rw[hbe];exact hv⟩
   · refine(ok b u q).stay (λc v hc r=>k c v ?_ r) (λc r=>by rw[Hk (nown c b r)];exact r) λc xs r=>by rw[Hk (ntup c xs r)];exact r
     rcases hc with rfl | hc
     · exact hbe
     · rintro rfl;rcases he with z | z
       · exact nown c b hc z
       · rw[hc] at z;cases z;exact hb rfl
end
structure Un(fs ex:List Addr)(H H':Hp)(h h':Heap):Prop where
 keep:∀b o,h.get? b=some o→H b=none→b ∉ fs→b ∉ ex→h'.get? b=some o
 slot:∀b o,h.get? b=some o→H b=none→b∈fs→b ∉ ex→∃sl,h'.get? b=some {o with slots:=sl}
 free:∀b o,h.get? b=some o→H b=none→b ∉ ex→H' b=none
 there:∀b o,h.get? b=some o→b ∉ ex→∃o',h'.get? b=some o'
 tups:∀b xs,H b=some (.tup xs)→H' b=some (.tup xs)
 frzs:∀b o u,H b=some (.frz o u)→H' b=some (.frz o u)
 tbls:∀b ps,H b=some (.tbl ps)→∃more,H' b=some (.tbl (ps++more))
section
variable{fs fs' ex ex':List Addr}{H H1 H2:Hp}{h1 h2 h':Heap}{x e:Addr}{o:HO}
theorem Un.any(u:Un fs ex H H1 h h1){ob:Obj}(q:h.get? b=some ob)(n:H b=none)(hx:b ∉ ex):∃sl,h1.get? b=some {ob with slots:=sl}:=by
 by_cases hb:b∈fs
 · exact u.slot b ob q n hb hx
 · exact⟨ob.slots,u.keep b ob q n hb hx⟩
theorem Un.kept(k:∀b u,h.get? b=some u→h'.get? b=some u):Un fs ex H H h h':=
 ⟨λb ob q _ _ _=>k b ob q,λb ob q _ _ _=>⟨ob.slots,k b ob q⟩,λ_ _ _ n _=>n,λb ob q _=>⟨ob,k b ob q⟩,λ_ _ q=>q,λ_ _ _ q=>q,λ_ ps q=>⟨#[],by rw[q];simp⟩⟩
theorem Un.refl:Un fs ex H H h h:=Un.kept λ_ _ q=>q
theorem Un.laid(k:∀b u,h.get? b=some u→h'.get? b=some u)(hp:h.objs.size≤a)(hn:H a=none):Un fs ex H (GZ H a o) h h' where
 keep:=λb u q _ _ _=>k b u q
 slot:=λb u q _ _ _=>⟨u.slots,k b u q⟩
 free:=λb u q n _=>by rw[Hk (As (Av (Ao q) hp))];exact n
 there:=λb u q _=>⟨u,k b u q⟩
 tups:=λb xs q=>by rw[Hk (IE q hn)];exact q
 frzs:=λb u xs q=>by rw[Hk (IE q hn)];exact q
 tbls:=λb ps q=>⟨#[],by rw[Hk (IE q hn),q];simp⟩
theorem Un.write(mu:M_ (H x))(he:e=x∨H e=some (.own x))(k:∀b u,b≠e→h.get? b=some u→h'.get? b=some u)(heo:∃u,h'.get? e=some u):Un fs ex H (GZ H x o) h h':=by
 have hx:∀b,H b=none→b≠x:=λb n z=>by subst z;rw[n] at mu;exact mu
 have hb:∀b,H b=none→b≠e:=λb n z=>by
  subst z;rcases he with r | r
  · exact hx b n r
  · rw[n] at r;cases r
 have hm:∀b u,H b=some u→¬M_ (some u)→b≠x:=λb u q nm z=>by subst z;rw[q] at mu;exact nm mu
 refine⟨λb u q n _ _=>k b u (hb b n) q,λb u q n _ _=>⟨u.slots,k b u (hb b n) q⟩,λb u q n _=>by rw[Hk (hx b n)];exact n,λb u q _=>?_,
  λb xs q=>by rw[Hk (hm b _ q λz=>z)];exact q,λb u xs q=>by rw[Hk (hm b _ q λz=>z)];exact q,λb ps q=>⟨#[],by rw[Hk (hm b _ q λz=>z),q];simp⟩⟩
 by_cases hbe:b=e
 · subst hbe;exact heo
 · exact⟨u,k b u hbe q⟩
end
def trk(h:Heap)(H:Hp):List Addr:=(AY h.objs.size).filter λa=>(H a).isSome
def Jf(h:Heap)(H:Hp):Heap:=Bm h (trk h H)
theorem X4(h:Heap)(H:Hp):(Jf h H).objs.size=h.objs.size:=PySem.W.hideAll_size _ _
theorem Xi{H:Hp}{o:Obj}(e:h.get? b=some o)(n:H b=none):(Jf h H).get? b=some o:=
 Ed _ e λhm=>by have q:(H b).isSome=true:=(List.mem_filter.mp hm).2;rw[n] at q;simp at q
theorem Wn{H:Hp}{o:Obj}(e:(Jf h H).get? b=some o):h.get? b=some o∧H b=none:=by
 have e':h.get? b=some o:=Dr (trk h H) e;refine⟨e',?_⟩;cases q:H b with
 | none=>rfl
 | some x=> have hm:b∈trk h H:=List.mem_filter.mpr ⟨Cc.mpr (Ao e'),by simp[q]⟩;have z:(Jf h H).get? b=none:=Dd (trk h H) hm;rw[z] at e;cases e
def Vt(g h:Heap)(L:Addr):List (Addr×Obj):=(AY h.objs.size).filterMap λa=>if a=L∨(g.get? a).isSome=true then none else(h.get? a).map λo=>(a,o)
def rest(g h:Heap)(L d:Addr):List (Addr×Obj):=(Vt g h L).filter λp=>decide (p.1≠d)
structure Mod(K:Af)(mg:Str→Option Value)(base:Heap):Prop where
 kin:K.In base
 glob:base.Ns Ak mg
 blt:∃mb,base.Ns builtinsNs mb∧∀x:Str,x≠"__name__"→mb x=AO x
 nolimit:base.NoLimit
structure Cx where
 prog:Bk
 w:World
 K:Af
 mg:Str→Option Value
 base:Heap
 A:Bq
 N:List Str
 s₀:Shared
 H₀:Hp
 env:Env
 outer:List Env
 stack:List Env
 ex:List Addr
 fn:Str→Bool
 calm:Bool
 pn:List (Addr×Obj)
 xe:Value→Shared→Prop
def HN(l:List Env):List Addr:=l.filterMap (·.frame)
abbrev Cx.fs(X:Cx):List Addr:=HN X.outer
def Og(sc:Scope)(x:Str):Prop:=sc.names.lookup x=some .local∨sc.names.lookup x=some .cell∨sc.names.lookup x=some .free
def Na(sc:Scope)(x:Str):Prop:=sc.names.lookup x=some .local∨sc.names.lookup x=some .cell
def Q5(env:Env)(h:Heap)(m:Str→Option Value)(x:Str)(u:Value):Prop:=
 (env.kindOf x=some .local∧m x=some u)∨((env.kindOf x=some .cell∨env.kindOf x=some .free)∧∃c,env.cells.lookup x=some c∧h.IsCell c (some u))
structure Cx.Ok(X:Cx):Prop where
 mod:Mod X.K X.mg X.base
 kind:X.env.scope.kind= .function
 glob:X.env.globals=Ak
 blt:X.env.builtins=builtinsNs
 above:X.s₀.heap.objs.size≤X.env.locals
 inj:∀x y c,X.env.cells.lookup x=some c→X.env.cells.lookup y=some c→x=y
 has:∀x,(X.env.kindOf x=some .cell∨X.env.kindOf x=some .free)→∃c,X.env.cells.lookup x=some c
 cab:∀x c,X.fn x=true→X.env.cells.lookup x=some c→X.s₀.heap.objs.size≤c
 hd:X.calm=true→X.A.handled=none
 frames:X.A.frames=some X.stack
 stk:X.stack=X.outer∨(X.stack=X.env::X.outer∧X.env.frame=some X.env.locals)
 exf:∀b∈X.ex,b≠X.env.locals∧∀x c,X.env.cells.lookup x=some c→c≠b
 bs:∀b o,X.base.get? b=some o→X.s₀.heap.get? b=some o∧X.H₀ b=none
 bsz:X.base.objs.size≤X.s₀.heap.objs.size
 noex:∀b o,X.base.get? b=some o→b ∉ X.ex
 exfs:∀b∈X.ex,b ∉ X.fs
 funs:X.s₀.heap.FunFrames X.base X.outer
 frf:∀b∈X.fs,X.H₀ b=none
structure Inv(X:Cx)(pins:List (Addr×Obj))(σ:List (Option V))(H:Hp)(s:Shared):Prop where
 ok:X.Ok
 os:s.os=X.s₀.os
 bare:AllBare s.gens
 base:Un X.fs X.ex X.H₀ H X.s₀.heap s.heap
 loc:∃m,s.heap.Ns X.env.locals m∧∀(i:Nat)(x:Str)(v:V),X.N[i]?=some x→σ[i]?=some (some v)→Og X.env.scope x→∃u,RelV v u∧Q5 X.env s.heap m x u
 cell:∀x c,X.env.cells.lookup x=some c→∃v,s.heap.IsCell c v
 free:H X.env.locals=none
 freeC:∀x c,X.env.cells.lookup x=some c→H c=none
 pin:∀p∈X.pn++pins,s.heap.get? p.1=some p.2∧H p.1=none∧p.1≠X.env.locals∧p.1 ∉ X.fs∧∀v,p.2.data≠ .cell v
 hok:HOk X.prog X.w H s.heap
 len:σ.length=X.N.length
section
variable{X:Cx}{σ:List (Option V)}{H H':Hp}{h':Heap}
theorem Cx.Ok.nofr(ok:X.Ok){o:Obj}(e:X.base.get? b=some o):b ∉ X.fs:=λhb=>by have:=(ok.funs.mem hb).1;rw[e] at this;cases this
theorem Inv.bs(I:Inv X pins σ H s):∀b o,X.base.get? b=some o→s.heap.get? b=some o∧H b=none:=λb o e=>
 ⟨I.base.keep b o (I.ok.bs b o e).1 (I.ok.bs b o e).2 (I.ok.nofr e) (I.ok.noex b o e),I.base.free b o (I.ok.bs b o e).1 (I.ok.bs b o e).2 (I.ok.noex b o e)⟩
theorem Inv.bk(I:Inv X pins σ H s):∀b o,X.base.get? b=some o→s.heap.get? b=some o:=λb o e=>(I.bs b o e).1
theorem Inv.mod(I:Inv X pins σ H s):Mod X.K X.mg X.base:=I.ok.mod
theorem Inv.kIn(I:Inv X pins σ H s):X.K.In s.heap:=I.ok.mod.kin.keeps I.bk
theorem Inv.fr(I:Inv X pins σ H s):∃m,Fr X.base X.env.locals s.heap m:=
 let⟨m,hn,_⟩:=I.loc
 ⟨m,hn,I.bk,A8 I.ok.bsz I.ok.above⟩
theorem Inv.lt(I:Inv X pins σ H s):X.env.locals<s.heap.objs.size:=let⟨_,hn,_⟩:=I.loc;hn.lt
theorem Inv.sz(I:Inv X pins σ H s):X.s₀.heap.objs.size≤s.heap.objs.size:=A8 I.ok.above (Bb I.lt)
theorem Inv.nofs(I:Inv X pins σ H s)(h:s.heap.objs.size≤a):a ∉ X.fs:=λhb=>by obtain⟨_,o,ho,_⟩:=I.ok.funs.mem hb;exact absurd (Av (Ao ho) (A8 I.sz h)) (CU _)
theorem Inv.cne(I:Inv X pins σ H s):∀x c,X.env.cells.lookup x=some c→c≠X.env.locals:=λx c e z=>by obtain⟨v,o,ho,hd⟩:=I.cell x c e;obtain⟨m,⟨o',es,ep,ho',hd',_⟩,_⟩:=I.loc;rw[z,ho'] at ho;cases ho;rw[hd'] at hd;cases hd
theorem Inv.funs(I:Inv X pins σ H s):s.heap.FunFrames X.base X.outer:=by
 have all:∀(l:List Env),(∀b∈HN l,b∈X.fs)→X.s₀.heap.FunFrames X.base l→s.heap.FunFrames X.base l:=by
  intro l
  induction l with
  | nil=>intro _ _;trivial
  | cons env r ih=> intro hs hl;obtain⟨hk,⟨L,o,hf,hn,ho,hd⟩,hr⟩:=hl;have hL:L∈X.fs:=hs L (by unfold HN;rw[Cm,hf];exact AD);obtain⟨sl,e⟩:=I.base.slot L o ho (I.ok.frf L hL) hL λz=>I.ok.exfs L z hL;exact⟨hk,⟨L,_,hf,hn,e,hd⟩,ih (λb hb=>hs b (by unfold HN;rw[Cm,hf];exact Az _ hb)) hr⟩
 exact all X.outer (λ_ hb=>hb) I.ok.funs
theorem Inv.stack(I:Inv X pins σ H s):s.heap.FunFrames X.base X.stack:=by
 rcases I.ok.stk with e | ⟨e,hf⟩
 · rw[e];exact I.funs
 · rw[e];obtain⟨m,hn,_⟩:=I.loc;refine .cons (by rw[I.ok.kind];decide) hf hn ?_ I.funs;exact De (A8 I.ok.bsz I.ok.above)
theorem Inv.stkSub(I:Inv X pins σ H s):∀b∈HN X.stack,b∈X.env.locals::X.fs:=λb hb=>by
 rcases I.ok.stk with e | ⟨e,hf⟩
 · rw[e] at hb;exact Az _ hb
 · rw[e] at hb;unfold HN at hb;rw[Cm,hf] at hb;exact hb
theorem Inv.stkFree(I:Inv X pins σ H s):∀b∈HN X.stack,H b=none:=λb hb=>by
 rcases Au.mp (I.stkSub b hb) with e | hb
 · rw[e];exact I.free
 · obtain⟨_,o,ho,_⟩:=I.ok.funs.mem hb;exact I.base.free b o ho (I.ok.frf b hb) λz=>I.ok.exfs b z hb
theorem Inv.step{g':Array GenState}{t':Nat}{d':Drawn}{ch:List Addr}(I:Inv X pins σ H s)
 (hch:∀b∈ch,(b∈X.ex∨X.s₀.heap.objs.size≤b)∧b≠X.env.locals∧(∀x c,X.env.cells.lookup x=some c→c≠b)∧∀p∈X.pn++pins,p.1≠b)
 (keep:∀b o,b≠X.env.locals→b ∉ X.fs→b ∉ ch→s.heap.get? b=some o→H b=none→h'.get? b=some o)
 (slot:∀b o,b≠X.env.locals→b∈X.fs→b ∉ ch→s.heap.get? b=some o→H b=none→∃sl,h'.get? b=some {o with slots:=sl}) (free:∀b o,b ∉ ch→s.heap.get? b=some o→H b=none→H' b=none)
 (there:∀b o,b ∉ ch→s.heap.get? b=some o→∃o',h'.get? b=some o')
 (tups:∀b xs,H b=some (.tup xs)→H' b=some (.tup xs)) (frzs:∀b o u,H b=some (.frz o u)→H' b=some (.frz o u)) (tbls:∀b ps,H b=some (.tbl ps)→∃more,H' b=some (.tbl (ps++more)))
 (ns:∀m,s.heap.Ns X.env.locals m→h'.Ns X.env.locals m) (hok:HOk X.prog X.w H' h') (hg:AllBare g'):
 Inv X pins σ H' {s with heap:=h',gens:=g',drawn:=d',toks:=t'}:=by
 have neL:∀b o,X.s₀.heap.get? b=some o→b≠X.env.locals:=λb o e=>As (Av (Ao e) I.ok.above);have neC:∀b o,X.s₀.heap.get? b=some o→b ∉ X.ex→b ∉ ch:=λb o e hx hb=>by
  rcases(hch b hb).1 with z | z
  · exact hx z
  · exact absurd (Av (Ao e) z) (CU _)
 have cellK:∀x c,X.env.cells.lookup x=some c→∀v,s.heap.IsCell c v→h'.IsCell c v:=λx c e v ⟨o,ho,hd⟩=>by
  have nch:c ∉ ch:=λz=>(hch c z).2.2.1 x c e rfl;by_cases hc:c∈X.fs
  · obtain⟨sl,q⟩:=slot c o (I.cne x c e) hc nch ho (I.freeC x c e);exact⟨_,q,hd⟩
  · exact⟨o,keep c o (I.cne x c e) hc nch ho (I.freeC x c e),hd⟩
 refine⟨I.ok,I.os,hg,⟨λb o e n hb hx=>?_,λb o e n hb hx=>?_,λb o e n hx=>?_,λb o e hx=>?_,λb xs e=>tups b xs (I.base.tups b xs e),λb o xs e=>frzs b o xs (I.base.frzs b o xs e),λb ps e=>?_⟩,?_,λx c e=>?_,?_,λx c e=>?_,λp hp=>?_,hok,I.len⟩
 · exact keep b o (neL b o e) hb (neC b o e hx) (I.base.keep b o e n hb hx) (I.base.free b o e n hx)
 · obtain⟨sl,e1⟩:=I.base.slot b o e n hb hx;obtain⟨sl',e2⟩:=slot b _ (neL b o e) hb (neC b o e hx) e1 (I.base.free b o e n hx);exact⟨sl',e2⟩
 · obtain⟨o',e1⟩:=I.base.there b o e hx;exact free b o' (neC b o e hx) e1 (I.base.free b o e n hx)
 · obtain⟨o',e1⟩:=I.base.there b o e hx;exact there b o' (neC b o e hx) e1
 · obtain⟨m1,e1⟩:=I.base.tbls b ps e;obtain⟨m2,e2⟩:=tbls b _ e1;exact⟨m1++m2,by rw[e2,Array.append_assoc]⟩
 · obtain⟨m,hn,hl⟩:=I.loc;refine⟨m,ns m hn,λi x v e1 e2 e3=>?_⟩;obtain⟨u,r,l⟩:=hl i x v e1 e2 e3;refine⟨u,r,?_⟩;rcases l with l | ⟨k,c,e,z⟩
   · exact .inl l
   · exact .inr ⟨k,c,e,cellK x c e _ z⟩
 · obtain⟨v,z⟩:=I.cell x c e;exact⟨v,cellK x c e v z⟩
 · obtain⟨m,⟨o,_,_,ho,_⟩,_⟩:=I.loc;exact free _ o (λz=>(hch _ z).2.1 rfl) ho I.free
 · obtain⟨v,o,ho,hd⟩:=I.cell x c e;exact free c o (λz=>(hch c z).2.2.1 x c e rfl) ho (I.freeC x c e)
 · obtain⟨e,n,ne,nf,d⟩:=I.pin p hp;have nch:p.1 ∉ ch:=λz=>(hch p.1 z).2.2.2 p hp rfl;exact⟨keep p.1 p.2 ne nf nch e n,free p.1 p.2 nch e n,ne,nf,d⟩
theorem Inv.un{t':Nat}(I:Inv X pins σ H s)(u:Un X.fs [] H H' s.heap h')(hok:HOk X.prog X.w H' h'):Inv X pins σ H' {s with heap:=h',toks:=t'}:=by obtain⟨m,⟨o,es,ep,ho,r⟩,_⟩:=id I.loc;obtain⟨sl,hL⟩:=u.any ho I.free (by simp);exact I.step (g':=s.gens) (d':=s.drawn) (ch:=[]) (λ_ z=>nomatch z) (λb o _ hb _ e n=>u.keep b o e n hb (by simp)) (λb o _ hb _ e n=>u.slot b o e n hb (by simp)) (λb o _ e n=>u.free b o e n (by simp)) (λb o _ e=>u.there b o e (by simp)) u.tups u.frzs u.tbls (λm' hm=>by obtain⟨o',es',ep',ho',r'⟩:=hm;rw[ho] at ho';cases ho';exact⟨_,es',ep',hL,r'⟩) hok I.bare
theorem Inv.call{g':Array GenState}{t':Nat}{d':Drawn}{ch:List Addr}(I:Inv X pins σ H s)(u:Un (HN X.stack) ch H H' s.heap h')(hok:HOk X.prog X.w H' h')(hg:AllBare g')
 (hch:∀b∈ch,(b∈X.ex∨X.s₀.heap.objs.size≤b)∧b≠X.env.locals∧(∀x c,X.env.cells.lookup x=some c→c≠b)∧∀p∈X.pn++pins,p.1≠b):
 Inv X pins σ H' {s with heap:=h',gens:=g',drawn:=d',toks:=t'}:=by
 obtain⟨m,⟨o,es,ep,ho,r⟩,_⟩:=id I.loc;obtain⟨sl,hL⟩:=u.any ho I.free λz=>(hch _ z).2.1 rfl;exact I.step (ch:=ch) hch (λb o hL hb hc e n=>u.keep b o e n (λz=>(Au.mp (I.stkSub b z)).elim hL hb) hc) (λb o _ _ hc e n=>u.any e n hc) (λb o hc e n=>u.free b o e n hc) (λb o hc e=>u.there b o e hc) u.tups u.frzs u.tbls (λm' hm=>by obtain⟨o',es',ep',ho',r'⟩:=hm;rw[ho] at ho';cases ho';exact⟨_,es',ep',hL,r'⟩) hok hg
theorem Inv.turned{t':Nat}{it:Addr}(I:Inv X pins σ H s)(k:∀b o,b≠it→s.heap.get? b=some o→h'.get? b=some o)(hn:H it=none)(hL:it≠X.env.locals)
 (h1:it∈X.ex∨X.s₀.heap.objs.size≤it) (h2:∀x c,X.env.cells.lookup x=some c→c≠it) (h3:∀p∈X.pn++pins,p.1≠it):Inv X pins σ H {s with heap:=h',toks:=t'}:=by
 have nit:∀b u,H b=some u→b≠it:=λb u e z=>by rw[z,hn] at e;cases e
 refine I.step (g':=s.gens) (d':=s.drawn) (ch:=[it]) (λb hb=>?_) (λb o _ _ hc e _=>k b o (λz=>hc (by simp[z])) e) (λb o _ _ hc e _=>⟨o.slots,k b o (λz=>hc (by simp[z])) e⟩) (λ_ _ _ _ n=>n)
  (λb o hc e=>⟨o,k b o (λz=>hc (by simp[z])) e⟩) (λ_ _ e=>e) (λ_ _ _ e=>e) (λb ps e=>⟨#[],by rw[e];simp⟩) (λm hm=>?_) (λb u e=>?_) I.bare
 · have e:b=it:=by simpa using hb
   subst e;exact⟨h1,hL,h2,h3⟩
 · obtain⟨o,es,ep,ho,r⟩:=hm;exact⟨o,es,ep,k _ o (By hL) ho,r⟩
 · refine(I.hok b u e).stay (λc v hc q=>k c v ?_ q) (λ_ q=>q) λ_ _ q=>q;rcases hc with z | z
   · rw[z];exact nit b u e
   · exact nit c _ z
theorem Inv.tok(I:Inv X pins σ H s)(t:Nat):Inv X pins σ H {s with toks:=t}:=I.un (h':=s.heap) (t':=t) Un.refl I.hok
theorem Inv.kept{t':Nat}(I:Inv X pins σ H s)(k:∀b u,s.heap.get? b=some u→h'.get? b=some u):Inv X pins σ H {s with heap:=h',toks:=t'}:=I.un (Un.kept k) (I.hok.kept k)
theorem Inv.laid{o:HO}{t':Nat}(I:Inv X pins σ H s)(k:∀b u,s.heap.get? b=some u→h'.get? b=some u)(hp:s.heap.objs.size≤a)(new:ObjOk X.prog X.w (GZ H a o) h' a o):
 Inv X pins σ (GZ H a o) {s with heap:=h',toks:=t'}:=I.un (Un.laid k hp (I.hok.fresh hp)) (I.hok.laid k hp new)
theorem Inv.write{x e:Addr}{o:HO}{t':Nat}(I:Inv X pins σ H s)(mu:M_ (H x))(he:e=x∨H e=some (.own x))(k:∀b u,b≠e→s.heap.get? b=some u→h'.get? b=some u)(heo:∃u,h'.get? e=some u)
 (new:ObjOk X.prog X.w (GZ H x o) h' x o):Inv X pins σ (GZ H x o) {s with heap:=h',toks:=t'}:=I.un (Un.write mu he k heo) (I.hok.write mu he k heo new)
theorem Inv.pins_of{pins':List (Addr×Obj)}(I:Inv X pins σ H s)(h:∀p∈pins',s.heap.get? p.1=some p.2∧H p.1=none∧p.1≠X.env.locals∧p.1 ∉ X.fs∧∀v,p.2.data≠ .cell v):Inv X pins' σ H s:=
 ⟨I.ok,I.os,I.bare,I.base,I.loc,I.cell,I.free,I.freeC,λp hp=>(A6.mp hp).elim (λz=>I.pin p (Cg _ z)) (h p),I.hok,I.len⟩
theorem OQ{N:List Str}(hN:N.Nodup){j:Nat}{x:Str}(a:N[i]?=some x)(b:N[j]?=some x):i=j:=by obtain⟨h1,e1⟩:=AM.mp a;obtain⟨h2,e2⟩:=AM.mp b;exact(List.getElem_inj hN).mp (e1.trans e2.symm)
theorem Tv{M:Model}{A:Bq}{E:Value→Shared→Prop}{x:Str}{v:V}{Q:Unit→Shared→Prop}(I:Inv X pins σ H s)(hN:X.N.Nodup)(hi:X.N[i]?=some x)(hx:Na X.env.scope x)(r:RelV v u)
 (h:∀s',Inv X pins (σ.set i (some v)) H s'→(∃a,BO a s.heap s'.heap∧(a=X.env.locals∨X.env.cells.lookup x=some a))→Q () s') (hf:X.fn x=true∨X.env.scope.names.lookup x=some .local:=by first | exact .inl rfl | exact .inr rfl | assumption):wpAny M A (storeName X.env x u) Q E s:=by
 obtain⟨m,hn,hl⟩:=id I.loc;have hcls:(X.env.scope.kind== .class || (X.env.scope.kind== .module && X.env.locals !=X.env.globals))=false:=by rw[I.ok.kind];rfl
 have hiσ:i<σ.length:=by rw[I.len];exact(AM.mp hi).1
 have cne:=I.cne;have tracked:∀{a:Addr}{h':Heap},(∃o,s.heap.get? a=some o∧H a=none)→BO a s.heap h'→HOk X.prog X.w H h':=λ{a h'}ha hs b ob e=>by
  obtain⟨_,_,hfree⟩:=ha;refine(I.hok b ob e).stay (λc w' hc q=>(hs.2 c ?_).trans q) (λ_ q=>q) λ_ _ q=>q;rintro rfl;rcases hc with rfl | hc
  · rw[hfree] at e;cases e
  · rw[hfree] at hc;cases hc
 rcases hx with hk | hk
 · refine wpAny_storeName_local hk hn (λh' hn' hs=>?_) hcls;obtain⟨oL,_,_,hoL,_⟩:=id hn;refine h _ ⟨I.ok,I.os,I.bare,⟨λb o e n hb hx=>?_,λb o e n hb hx=>?_,I.base.free,λb o e hx=>?_,I.base.tups,I.base.frzs,I.base.tbls⟩,⟨_,hn',λj y v' e1 e2 e3=>?_⟩,λy c e=>?_,I.free,I.freeC,λp hp=>?_,tracked ⟨oL,hoL,I.free⟩ hs,by simpa using I.len⟩ ⟨_,hs,.inl rfl⟩
   · exact(hs.2 b (As (Av (Ao e) I.ok.above))).trans (I.base.keep b o e n hb hx)
   · obtain⟨sl,e1⟩:=I.base.slot b o e n hb hx;exact⟨sl,(hs.2 b (As (Av (Ao e) I.ok.above))).trans e1⟩
   · obtain⟨o',e1⟩:=I.base.there b o e hx;exact⟨o',(hs.2 b (As (Av (Ao e) I.ok.above))).trans e1⟩
   · by_cases hj:j=i
     · subst hj;rw[hi] at e1;cases e1;rw[Fc hiσ] at e2;cases e2;exact⟨u,r,.inl ⟨hk,by simp⟩⟩
     · rw[DP (By hj)] at e2;obtain⟨u',r',q⟩:=hl j y v' e1 e2 e3;refine⟨u',r',?_⟩;rcases q with⟨k,e⟩ | ⟨k,c,e,z⟩
       · refine .inl ⟨k,?_⟩;have:y≠x:=λe=>hj (OQ hN e1 (e ▸ hi));simp[this,e]
       · exact .inr ⟨k,c,e,z.sameBut hs (cne y c e)⟩
   · obtain⟨w',z⟩:=I.cell y c e;exact⟨w',z.sameBut hs (cne y c e)⟩
   · obtain⟨e,n,ne,nf,d⟩:=I.pin p hp;exact⟨(hs.2 p.1 ne).trans e,n,ne,nf,d⟩
 · have hfn:X.fn x=true:=by
    rcases hf with z | z
    · exact z
    · rw[z] at hk;cases hk
   obtain⟨c,hc⟩:=I.ok.has x (.inl hk);obtain⟨w',z⟩:=I.cell x c hc;refine wpAny_storeName_cell I.ok.kind hk hc z (λh' hc' hs=>?_);obtain⟨oc,hoc,hocd⟩:=id z;refine h {s with heap:=h'} ⟨I.ok,I.os,I.bare,⟨λb o e n hb hx=>?_,λb o e n hb hx=>?_,I.base.free,λb o e hx=>?_,I.base.tups,I.base.frzs,I.base.tbls⟩,⟨m,hn.sameBut hs (By (cne x c hc)),λj y v' e1 e2 e3=>?_⟩,λy c' e=>?_,I.free,I.freeC,λp hp=>?_,tracked ⟨oc,hoc,I.freeC x c hc⟩ hs,by simpa using I.len⟩ ⟨c,hs,.inr hc⟩
   · exact(hs.2 b (As (Av (Ao e) (I.ok.cab x c hfn hc)))).trans (I.base.keep b o e n hb hx)
   · obtain⟨sl,e1⟩:=I.base.slot b o e n hb hx;exact⟨sl,(hs.2 b (As (Av (Ao e) (I.ok.cab x c hfn hc)))).trans e1⟩
   · obtain⟨o',e1⟩:=I.base.there b o e hx;exact⟨o',(hs.2 b (As (Av (Ao e) (I.ok.cab x c hfn hc)))).trans e1⟩
   · by_cases hj:j=i
     · subst hj;rw[hi] at e1;cases e1;rw[Fc hiσ] at e2;cases e2;exact⟨u,r,.inr ⟨.inl hk,c,hc,hc'⟩⟩
     · rw[DP (By hj)] at e2;obtain⟨u',r',q⟩:=hl j y v' e1 e2 e3;refine⟨u',r',?_⟩;rcases q with q | ⟨k,c',e,z'⟩
       · exact .inl q
       · refine .inr ⟨k,c',e,z'.sameBut hs ?_⟩;rintro rfl;exact hj (OQ hN e1 (I.ok.inj _ _ _ e hc ▸ hi))
   · by_cases hcc:c'=c
     · subst hcc;exact⟨_,hc'⟩
     · obtain⟨w2,z2⟩:=I.cell y c' e;exact⟨w2,z2.sameBut hs hcc⟩
   · obtain⟨e,n,ne,nf,d⟩:=I.pin p hp;refine⟨(hs.2 p.1 ?_).trans e,n,ne,nf,d⟩;intro q;rw[q,hoc] at e;have q':oc=p.2:=Am e;exact d w' (by rw[←q'];exact hocd)
theorem OZ{M:Model}{A:Bq}{E:Value→Shared→Prop}{x:Str}{v:V}{Q:Unit→Shared→Prop}(I:Inv X pins σ H s)(hN:X.N.Nodup)(hi:X.N[i]?=some x)(hx:Na X.env.scope x)(r:RelV v u)
 (h:∀s',Inv X pins (σ.set i (some v)) H s'→Q () s') (hf:X.fn x=true∨X.env.scope.names.lookup x=some .local:=by first | exact .inl rfl | exact .inr rfl | assumption):wpAny M A (storeName X.env x u) Q E s:=
 Tv I hN hi hx r (λs' I' _=>h s' I') hf
theorem Inv.call'{s':Shared}{ch:List Addr}(I:Inv X pins σ H s)(ho:s'.os=s.os)(u:Un (HN X.stack) ch H H' s.heap s'.heap)(hok:HOk X.prog X.w H' s'.heap)(hg:AllBare s'.gens)
 (hch:∀b∈ch,(b∈X.ex∨X.s₀.heap.objs.size≤b)∧b≠X.env.locals∧(∀x c,X.env.cells.lookup x=some c→c≠b)∧∀p∈X.pn++pins,p.1≠b):Inv X pins σ H' s':=by
 obtain⟨h',g',d',t',o'⟩:=s';have e:o'=s.os:=ho;subst e;exact I.call (g':=g') (t':=t') (d':=d') u hok hg hch
end
abbrev XK:=Value→Option Addr→Hp→Prop
abbrev St:=List (Option V)
abbrev VK:=V→Hp→Prop
abbrev TE:=St→Hp→VK→Prop
abbrev TT:=St→Hp→(Bool→Hp→Prop)→Prop
abbrev TA:=St→Hp→(List V→Hp→Prop)→Prop
structure Ends where
 nx:St→Hp→Prop
 rt:VK
 bk:St→Hp→Prop:=λ_ _=>False
 ct:St→Hp→Prop:=λ_ _=>False
abbrev TS:=Ends→St→Hp→Prop
def EP(X:Cx)(pins:List (Addr×Obj))(σ:St)(Q:VK)(u:Value)(s':Shared):Prop:=∃v H',Inv X pins σ H' s'∧RelV v u∧Q v H'
def TP(X:Cx)(pins:List (Addr×Obj))(σ:St)(Q:Bool→Hp→Prop)(b:Bool)(s':Shared):Prop:=∃H',Inv X pins σ H' s'∧Q b H'
def AP(X:Cx)(pins:List (Addr×Obj))(σ:St)(Q:List V→Hp→Prop)(us:List Value)(s':Shared):Prop:=∃vs H',Inv X pins σ H' s'∧Vals vs us∧Q vs H'
def SP(X:Cx)(pins:List (Addr×Obj))(D:Ends)(f:Flow)(s':Shared):Prop:=
 match f with
 | .next=>∃σ' H',Inv X pins σ' H' s'∧D.nx σ' H'
 | .brk=>∃σ' H',Inv X pins σ' H' s'∧D.bk σ' H'
 | .cont=>∃σ' H',Inv X pins σ' H' s'∧D.ct σ' H'
 | .ret u=>∃v σ' H',Inv X pins σ' H' s'∧RelV v u∧D.rt v H'
def PE(X:Cx)(e:Expr)(t:TE):Prop:=
 ∀(pins:List (Addr×Obj))(s:Shared)(σ:St)(H:Hp)(Q:VK),Inv X pins σ H s→t σ H Q→wpAny (model X.prog X.w) X.A (eval e X.env) (EP X pins σ Q) X.xe s
def PT(X:Cx)(e:Expr)(t:TT):Prop:=
 ∀(pins:List (Addr×Obj))(s:Shared)(σ:St)(H:Hp)(Q:Bool→Hp→Prop),Inv X pins σ H s→t σ H Q→wpAny (model X.prog X.w) X.A (isTrue e X.env (eval e X.env)) (TP X pins σ Q) X.xe s
def PW(X:Cx)(e:Expr)(t:TT):Prop:=
 ∀(whole:Sem Value)(pins:List (Addr×Obj))(s:Shared)(σ:St)(H:Hp)(Q:Bool→Hp→Prop),Inv X pins σ H s→t σ H Q→wpAny (model X.prog X.w) X.A (isTrue e X.env whole) (TP X pins σ Q) X.xe s
theorem PW.pt{X:Cx}{t:TT}(h:PW X e t):PT X e t:=h _
def PA(X:Cx)(es:List Expr)(t:TA):Prop:=
 ∀(pos:Pos)(pins:List (Addr×Obj))(s:Shared)(σ:St)(H:Hp)(Q:List V→Hp→Prop),Inv X pins σ H s→t σ H Q→wpAny (model X.prog X.w) X.A (spliced (backTo pos (A1 es X.env))) (AP X pins σ Q) X.xe s
def PS(X:Cx)(st:Stmt)(t:TS):Prop:=
 ∀(pins:List (Addr×Obj))(s:Shared)(σ:St)(H:Hp)(D:Ends),Inv X pins σ H s→t D σ H→wpAny (model X.prog X.w) X.A (exec st X.env) (SP X pins D) X.xe s
def PSs(X:Cx)(st:List Stmt)(t:TS):Prop:=
 ∀(pins:List (Addr×Obj))(s:Shared)(σ:St)(H:Hp)(D:Ends),Inv X pins σ H s→t D σ H→wpAny (model X.prog X.w) X.A (execs st X.env) (SP X pins D) X.xe s
theorem He{α:Type}{t:Sem α}{Q Q':α→Shared→Prop}{M:Model}(h:wpAny M A t Q E s)(hQ:∀a s,Q a s→Q' a s):wpAny M A t Q' E s:=A9 h hQ λ_ _ x=>x
section
variable{X:Cx}
def Ia(i:Nat):TE:=λσ H Q=>∃v,σ[i]?=some (some v)∧Q v H
def tC(v:V):TE:=λ_ H Q=>Q v H
theorem VA{x:Str}(hN:X.N[i]?=some x)(hv:Og X.env.scope x)(hd:(x==("__debug__":Str))=false:=by decide)(hcd:(x==("__classdict__":Str))=false:=by decide):PE X (.Name x pos) (Ia i):=by
 intro pins s σ H Q I h;obtain⟨v,e,h⟩:=h;obtain⟨m,hn,hl⟩:=I.loc;obtain⟨u,r,l⟩:=hl i x v hN e hv;have fin:EP X pins σ Q u s:=⟨v,H,I,r,h⟩;rcases l with⟨hk,hm⟩ | ⟨hk,c,hc,hcell⟩
 · exact wpAny_Name (wpAny_loadName_local I.ok.kind hk hn hm fin) hd
 · rcases hk with hk | hk
   · exact wpAny_Name (wpAny_loadName_cell I.ok.kind hk hc hcell fin) hd
   · exact wpAny_Name (wpAny_loadName_free I.ok.kind hk hc hcell fin hcd) hd
theorem G_{i j pos}:PE X (.Constant (.int i) j pos) (tC (.int i)):=λ_ _ _ H _ I h=>wpAny_Constant_int ⟨.int i,H,I.tok _,⟨_,rfl⟩,h⟩
theorem Iv{b j pos}:PE X (.Constant (.bool b) j pos) (tC (.bl b)):=λ_ _ _ H _ I h=>Constant_bool ⟨.bl b,H,I,rfl,h⟩
theorem J8{j pos}:PE X (.Constant .none j pos) (tC .non):=λ_ _ _ H _ I h=>Constant_none ⟨.non,H,I,rfl,h⟩
theorem Hq{x j pos}:PE X (.Constant (.str x) j pos) (tC (.str x)):=λ_ _ _ H _ I h=>Calls.Constant_str ⟨.str x,H,I.tok _,⟨_,rfl⟩,h⟩
def Gl(X:Cx)(x:Str):Prop:=X.env.kindOf x=some .globalImplicit
theorem Mq{E:Value→Shared→Prop}{σ:St}{H:Hp}{x:Str}{pos:Pos}{Q:Value→Shared→Prop}(I:Inv X pins σ H s)(hg:Gl X x)(hm:X.mg x=some u)(h:Q u s)
 (hd:(x==("__debug__":Str))=false:=by decide):wpAny (model X.prog X.w) X.A (eval (.Name x pos) X.env) Q E s:=
 Ez I.ok.kind hg (Calls.loadGlobal_global (by rw[I.ok.glob];exact I.mod.glob.keeps I.bk) hm h) hd
theorem KE{E:Value→Shared→Prop}{σ:St}{H:Hp}{x:Str}{pos:Pos}{Q:Value→Shared→Prop}(I:Inv X pins σ H s)(hg:Gl X x)(hm:X.mg x=none)(hv:AO x=some u)(h:Q u s)
 (hn:x≠"__name__":=by decide) (hd:(x==("__debug__":Str))=false:=by decide):wpAny (model X.prog X.w) X.A (eval (.Name x pos) X.env) Q E s:=by
 obtain⟨mb,h1,h2⟩:=I.mod.blt;exact Ez I.ok.kind hg (Calls.loadGlobal_builtin (by rw[I.ok.glob];exact I.mod.glob.keeps I.bk) hm (by rw[I.ok.blt];exact h1.keeps I.bk) ((h2 x hn).trans hv) h) hd
theorem IB{x:Str}{v:V}(hg:Gl X x)(hm:X.mg x=some u)(r:RelV v u)(hd:(x==("__debug__":Str))=false:=by decide):PE X (.Name x pos) (tC v):=
 λ_ _ _ H _ I h=>Mq I hg hm ⟨v,H,I,r,h⟩ hd
theorem HZ{x:Str}{v:V}(hg:Gl X x)(hm:X.mg x=none)(hv:AO x=some u)(r:RelV v u)(hn:x≠"__name__":=by decide)(hd:(x==("__debug__":Str))=false:=by decide):PE X (.Name x pos) (tC v):=
 λ_ _ _ H _ I h=>KE I hg hm hv ⟨v,H,I,r,h⟩ hn hd
variable{a b:Expr}{ta tb:TE}
def PC(X:Cx)(op:CmpOp)(a b:Expr)(t:TE):Prop:=
 ∀(pins:List (Addr×Obj))(s:Shared)(σ:St)(H:Hp)(Q:VK),Inv X pins σ H s→t σ H Q→
  wpAny (model X.prog X.w) X.A (eval a X.env) (λv s₁=>wpAny (model X.prog X.w) X.A (eval b X.env) (λu s₂=>wpAny (model X.prog X.w) X.A (Bj op v u) (EP X pins σ Q) X.xe s₂) X.xe s₁) X.xe s
theorem SN(b:Expr){op:CmpOp}(h:op≠ .In)(h2:op≠ .NotIn):behindInMarks op b=false:=by
 have e1:(op==CmpOp.In)=false:=by cases op<;>first | rfl | exact absurd rfl h
 have e2:(op==CmpOp.NotIn)=false:=by cases op<;>first | rfl | exact absurd rfl h2
 cases b<;>simp[behindInMarks,e1,e2]
def M9(ta:TE):TE:=λσ H Q=>ta σ H λx H1=>Q (.bl (decide (x= .non))) H1
def Uu(ta:TE):TE:=λσ H Q=>ta σ H λx H1=>Q (.bl (!decide (x= .non))) H1
theorem RelV.none_iff{x:V}{v:Value}(r:RelV x v):(v==Value.none)=decide (x= .non):=by
 cases x with
 | non=>cases r;rfl
 | bl _=>cases r;rfl
 | int _=>obtain⟨t,rfl⟩:=r;rfl
 | str _=>obtain⟨t,rfl⟩:=r;rfl
 | byt _=>obtain⟨t,rfl⟩:=r;rfl
 | flt _=>obtain⟨t,rfl⟩:=r;rfl
 | ref _=>cases r;rfl
 | ty _=>cases r;rfl
theorem J_{j pos'}(ha:PE X a ta):PC X .Is a (.Constant .none j pos') (M9 ta):=by intro pins s σ H Q I h;refine He (ha pins s σ H _ I h) λv s1 ⟨x,H1,I1,r1,q1⟩=>?_;exact Constant_none (is_none_gen ⟨.bl _,H1,I1,by rw[r1.none_iff];rfl,q1⟩)
theorem Wq{j pos'}(ha:PE X a ta):PC X .IsNot a (.Constant .none j pos') (Uu ta):=by intro pins s σ H Q I h;refine He (ha pins s σ H _ I h) λv s1 ⟨x,H1,I1,r1,q1⟩=>?_;exact Constant_none (isnot_none_gen ⟨.bl _,H1,I1,by rw[r1.none_iff];rfl,q1⟩)
def tB(t:TE):TT:=λσ H Q=>t σ H λx H1=>∃c,x= .bl c∧Q c H1
theorem LM{op:CmpOp}{t:TE}(h:PC X op a b t)(h1:behindInMarks op b=false:=by first | exact SN _ (by decide) (by decide) | rfl):PE X (.Compare a [op] [b] pos) t:=λpins s σ H Q I hw=>wpAny_Compare1 (h pins s σ H Q I hw) h1
theorem Mh{op:CmpOp}{t:TE}(h:PC X op a b t)(h1:behindInMarks op b=false:=by first | exact SN _ (by decide) (by decide) | rfl):PT X (.Compare a [op] [b] pos) (tB t):=by intro pins s σ H Q I hw;refine wpAny_isTrue_Compare1 (He (h pins s σ H _ I hw) λv s1 h1=>He h1 λu s2 h2=>He h2 λc s3 ⟨x,H1,I1,r1,q1⟩=>?_) h1;obtain⟨d,rfl,q⟩:=q1;cases r1;exact Bo ⟨H1,I1,q⟩
theorem Iz{t:TE}(h:PE X e t)(he:∀whole,isTrue e X.env whole=(do let v ←whole;standAt e.pos;holding [v] (truthy v)):=by intro _;rfl):PT X e (tB t):=by intro pins s σ H Q I hw;refine isTrue_plain (He (h pins s σ H _ I hw) λv s1 ⟨x,H1,I1,r1,q1⟩=>?_) (he _);obtain⟨d,rfl,q⟩:=q1;cases r1;exact Bo ⟨H1,I1,q⟩
variable{tA tB':TT}{rest:List Expr}
def PZ(t u:TT):TT:=λσ H Q=>t σ H λc H1=>if c=true then u σ H1 Q else Q false H1
def ZP(t u:TT):TT:=λσ H Q=>t σ H λc H1=>if c=true then Q true H1 else u σ H1 Q
def PU(t:TT):TT:=λσ H Q=>t σ H λc H1=>Q (!c) H1
theorem KJ(ha:PT X a tA):PW X (.BoolOp .And [a] pos) tA:=by
 intro wh pins s σ H Q I h;refine isTrue_and (He (ha pins s σ H Q I h) λc s1 e=>?_);cases c with
 | true=>exact isTrue_and_nil e
 | false=>exact e
theorem Jz(ha:PT X a tA):PW X (.BoolOp .Or [a] pos) tA:=by
 intro wh pins s σ H Q I h;refine isTrue_or (He (ha pins s σ H Q I h) λc s1 e=>?_);cases c with
 | false=>exact isTrue_or_nil e
 | true=>exact e
theorem KI(ha:PT X a tA)(hb:PW X (.BoolOp .And (b::rest) pos) tB'):PW X (.BoolOp .And (a::b::rest) pos) (PZ tA tB'):=by
 intro wh pins s σ H Q I h;refine isTrue_and (He (ha pins s σ H _ I h) λc s1 ⟨H1,I1,q1⟩=>?_);cases c with
 | true=>exact hb wh pins s1 σ H1 Q I1 q1
 | false=>exact⟨H1,I1,q1⟩
theorem Jb(ha:PT X a tA)(hb:PW X (.BoolOp .Or (b::rest) pos) tB'):PW X (.BoolOp .Or (a::b::rest) pos) (ZP tA tB'):=by
 intro wh pins s σ H Q I h;refine isTrue_or (He (ha pins s σ H _ I h) λc s1 ⟨H1,I1,q1⟩=>?_);cases c with
 | true=>exact⟨H1,I1,q1⟩
 | false=>exact hb wh pins s1 σ H1 Q I1 q1
theorem IM(ha:PT X a tA):PT X (.UnaryOp .Not a pos) (PU tA):=by intro pins s σ H Q I h;exact isTrue_not (ha pins s σ H (λc H1=>Q (!c) H1) I h)
def Vc(ta tb:TE):TE:=λσ H Q=>ta σ H λx H1=>∃c,x= .bl c∧if c=true then tb σ H1 Q else Q (.bl false) H1
def PR(ta tb:TE):TE:=λσ H Q=>ta σ H λx H1=>∃c,x= .bl c∧if c=true then Q (.bl true) H1 else tb σ H1 Q
def Uv(ta:TE):TE:=λσ H Q=>ta σ H λx H1=>∃c,x= .bl c∧Q (.bl (!c)) H1
theorem Jy{op}{t:TE}(h:PE X a t):PE X (.BoolOp op [a] pos) t:=λpins s σ H Q I hw=>BoolOp_one (h pins s σ H Q I hw)
theorem Km(ha:PE X a ta)(hb:PE X (.BoolOp .And (b::rest) pos) tb):PE X (.BoolOp .And (a::b::rest) pos) (Vc ta tb):=by
 intro pins s σ H Q I h;refine BoolOp_and (He (ha pins s σ H _ I h) λv s1 ⟨x,H1,I1,r1,q1⟩=>?_);obtain⟨c,rfl,q1⟩:=q1;cases r1;refine Bo ?_;cases c with
 | true=>exact hb pins s1 σ H1 Q I1 q1
 | false=>exact⟨.bl false,H1,I1,rfl,q1⟩
theorem K9(ha:PE X a ta)(hb:PE X (.BoolOp .Or (b::rest) pos) tb):PE X (.BoolOp .Or (a::b::rest) pos) (PR ta tb):=by
 intro pins s σ H Q I h;refine BoolOp_or (He (ha pins s σ H _ I h) λv s1 ⟨x,H1,I1,r1,q1⟩=>?_);obtain⟨c,rfl,q1⟩:=q1;cases r1;refine Bo ?_;cases c with
 | false=>exact hb pins s1 σ H1 Q I1 q1
 | true=>exact⟨.bl true,H1,I1,rfl,q1⟩
theorem QZ(ha:PE X a ta):PE X (.UnaryOp .Not a pos) (Uv ta):=by intro pins s σ H Q I h;refine UnaryOp_ (He (ha pins s σ H _ I h) λv s1 ⟨x,H1,I1,r1,q1⟩=>?_);obtain⟨c,rfl,q1⟩:=q1;cases r1;exact not_of (Bo ⟨.bl (!c),H1,I1,rfl,q1⟩)
def PX(t:TT)(ta tb:TE):TE:=λσ H Q=>t σ H λc H1=>if c=true then ta σ H1 Q else tb σ H1 Q
theorem Jm{c:Expr}(hc:PT X c tA)(ha:PE X a ta)(hb:PE X b tb):PE X (.IfExp c a b pos) (PX tA ta tb):=by
 intro pins s σ H Q I h;refine wpAny_IfExp (He (hc pins s σ H _ I h) λd s1 ⟨H1,I1,q1⟩=>?_);cases d with
 | true=>exact ha pins s1 σ H1 Q I1 q1
 | false=>exact hb pins s1 σ H1 Q I1 q1
end
def SqL(K:Af)(H:Hp)(a:Addr)(xs:List V):Prop:=
 Rd H a (.lst xs)∨
  ∃(o:Obj)(its:Array Value)(n:Nat),K.lookup a=some o∧o.cls= .type "list"∧o.dict=none∧o.data= .seq its n∧its.size≤Ag∧Vals xs its.toList
def SqT(K:Af)(H:Hp)(a:Addr)(xs:List V):Prop:=
 Rd H a (.tup xs)∨
  ∃(o:Obj)(its:Array Value)(n:Nat),K.lookup a=some o∧o.cls= .type "tuple"∧o.data= .seq its n∧its.size≤Ag∧Vals xs its.toList
def Q2:Value→Option V
 | .none=>some .non
 | .bool b=>some (.bl b)
 | .int i _=>some (.int i)
 | .str x _=>some (.str x)
 | .bytes b _=>some (.byt b)
 | .float b _=>some (.flt b)
 | .ref a=>some (.ref a)
 | .type n=>some (.ty n)
 | _=>none
theorem RelV.abs{x:V}(r:RelV x u):Q2 u=some x:=by
 cases x with
 | non=>cases r;rfl
 | bl _=>cases r;rfl
 | int _=>obtain⟨t,rfl⟩:=r;rfl
 | str _=>obtain⟨t,rfl⟩:=r;rfl
 | byt _=>obtain⟨t,rfl⟩:=r;rfl
 | flt _=>obtain⟨t,rfl⟩:=r;rfl
 | ref _=>cases r;rfl
 | ty _=>cases r;rfl
theorem RelV.inj{x y:V}(r:RelV x u)(q:RelV y u):x=y:=Am (r.abs.symm.trans q.abs)
theorem l0{α:Type}{P:List α→Prop}(h:P []):∀us:List α,us.length=0→P us
 | [],_=>h
theorem lS{α:Type}{n:Nat}{P:List α→Prop}(h:∀a us,us.length=n→P (a::us)):∀us:List α,us.length=n+1→P us
 | a::us,e=>h a us (Nat.succ.inj e)
theorem Vals.inj:∀{xs ys:List V}{us:List Value},Vals xs us→Vals ys us→xs=ys
 | _,_,_,.nil,.nil=>rfl
 | _,_,_,.cons r t,.cons r' t'=>by rw[r.inj r',Vals.inj t t']
section
variable{X:Cx}{σ:St}{H:Hp}{xs ys:List V}
theorem SqL.of(h:H a=some (.lst xs)):SqL K H a xs:= .inl (.inl h)
theorem SqT.of(h:H a=some (.tup xs)):SqT K H a xs:= .inl (.inl h)
theorem Inv.list(I:Inv X pins σ H s)(h:SqL X.K H a xs):∃its:List Value,Vals xs its∧PlainL s.heap a its.toArray∧xs.length≤Ag:=by
 rcases h with h | ⟨o,its,n,hk,hc,hd,hs,hz,r⟩
 · obtain⟨z,its,n,r,e⟩:=h.ok I.hok;exact⟨its,r,⟨_,n,e,rfl,rfl,rfl⟩,z⟩
 · refine⟨its.toList,r,⟨o,n,I.kIn a o hk,hc,hd,by simpa using hs⟩,?_⟩;have e:=r.length;simp only[Ar] at e;omega
theorem Inv.tuple(I:Inv X pins σ H s)(h:SqT X.K H a xs):∃its:List Value,Vals xs its∧IsTup s.heap a its.toArray∧xs.length≤Ag:=by
 rcases h with h | ⟨o,its,n,hk,hc,hs,hz,r⟩
 · obtain⟨z,its,r,p⟩:=h.ok I.hok;exact⟨its,r,p.tup,z⟩
 · refine⟨its.toList,r,⟨o,I.kIn a o hk,hc,n,by simpa using hs⟩,?_⟩;have e:=r.length;simp only[Ar] at e;omega
theorem Inv.list_inj(I:Inv X pins σ H s)(h:SqL X.K H a xs)(h':SqL X.K H a ys):xs=ys:=by
 obtain⟨its,r,⟨o,n,e,_,_,d⟩,_⟩:=I.list h;obtain⟨its',r',⟨o',n',e',_,_,d'⟩,_⟩:=I.list h';rw[e] at e';cases e';rw[d] at d';injection d' with d1 _;have:its=its':=by simpa using congrArg Array.toList d1
 subst this;exact r.inj r'
theorem Inv.tuple_inj(I:Inv X pins σ H s)(h:SqT X.K H a xs)(h':SqT X.K H a ys):xs=ys:=by
 obtain⟨its,r,⟨o,e,_,n,d⟩,_⟩:=I.tuple h;obtain⟨its',r',⟨o',e',_,n',d'⟩,_⟩:=I.tuple h';rw[e] at e';cases e';rw[d] at d';injection d' with d1 _;have:its=its':=by simpa using congrArg Array.toList d1
 subst this;exact r.inj r'
end
abbrev Cx.wish(X:Cx)(E:Value→Shared→Prop):Cx:={X with xe:=E}
abbrev Cx.nox(X:Cx):Cx:=X.wish λ_ _=>False
theorem Cx.Ok.wish{X:Cx}(ok:X.Ok)(E:Value→Shared→Prop):(X.wish E).Ok:=
 ⟨ok.mod,ok.kind,ok.glob,ok.blt,ok.above,ok.inj,ok.has,ok.cab,ok.hd,ok.frames,ok.stk,ok.exf,ok.bs,ok.bsz,ok.noex,ok.exfs,ok.funs,ok.frf⟩
theorem Cx.Ok.unwish{X:Cx}(ok:(X.wish E).Ok):X.Ok:=
 ⟨ok.mod,ok.kind,ok.glob,ok.blt,ok.above,ok.inj,ok.has,ok.cab,ok.hd,ok.frames,ok.stk,ok.exf,ok.bs,ok.bsz,ok.noex,ok.exfs,ok.funs,ok.frf⟩
section
variable{X:Cx}{σ:St}{H:Hp}
theorem Inv.wish(I:Inv X pins σ H s)(E:Value→Shared→Prop):Inv (X.wish E) pins σ H s:=⟨I.ok.wish E,I.os,I.bare,I.base,I.loc,I.cell,I.free,I.freeC,I.pin,I.hok,I.len⟩
theorem Inv.unwish(I:Inv (X.wish E) pins σ H s):Inv X pins σ H s:=⟨I.ok.unwish,I.os,I.bare,I.base,I.loc,I.cell,I.free,I.freeC,I.pin,I.hok,I.len⟩
theorem SP.unwish{D:Ends}{f:Flow}{s':Shared}(h:SP (X.wish E) pins D f s'):SP X pins D f s':=by
 cases f with
 | next=>obtain⟨σ',H',I,q⟩:=h;exact⟨σ',H',I.unwish,q⟩
 | brk=>obtain⟨σ',H',I,q⟩:=h;exact⟨σ',H',I.unwish,q⟩
 | cont=>obtain⟨σ',H',I,q⟩:=h;exact⟨σ',H',I.unwish,q⟩
 | ret u=>obtain⟨v,σ',H',I,r,q⟩:=h;exact⟨v,σ',H',I.unwish,r,q⟩
theorem PSs.nox{st:List Stmt}{t:TS}(h:PSs X.nox st t):PSs X st t:=λpins s σ H D I hw=> A9 (h pins s σ H D (I.wish _) hw) (λ_ _ q=>q.unwish) λ_ _ z=>B_ z
end
section
variable{X:Cx}{st:Stmt}{rest:List Stmt}{t u:TS}{te:TE}
def Oq:TS:=λD σ H=>D.nx σ H
def K0(t u:TS):TS:=λD σ H=>t {D with nx:=u D} σ H
theorem HI:PSs X [] Oq:=λ_ _ σ H _ I h=>Do ⟨σ,H,I,h⟩
theorem Hb(h1:PS X st t)(h2:PSs X rest u):PSs X (st::rest) (K0 t u):=by
 intro pins s σ H D I h;refine wpAny_execs_cons (He (h1 pins s σ H {D with nx:=u D} I h) λf s1 q=>?_)
 cases f with
 | next=> obtain⟨σ',H',I',q⟩:=q;exact h2 pins s1 σ' H' D I' q
 | ret v=>exact q
 | brk=>exact q
 | cont=>exact q
theorem Hd(h1:PS X st t):PSs X [st] t:=by
 intro pins s σ H D I h;refine wpAny_execs_cons (He (h1 pins s σ H D I h) λf s1 q=>?_);cases f with
 | next=>exact Do q
 | ret v=>exact q
 | brk=>exact q
 | cont=>exact q
theorem Inv.quiet{σ:St}{H:Hp}(I:Inv X pins σ H s):interactive X.env=false:=by simp[interactive,I.ok.kind]
def Ut(te:TE):TS:=λD σ H=>te σ H λ_ H1=>D.nx σ H1
theorem J5(he:PE X e te)(hs:swapsWith e none pos.line X.env=pure false:=by rfl):PS X (.Expr e pos) (Ut te):=by intro pins s σ H D I h;exact wpAny_Expr_any (He (he pins s σ H _ I h) λv s1 ⟨x,H1,I1,r1,q1⟩=>⟨σ,H1,I1,q1⟩) I.quiet hs
def M8(te:TE):TS:=λD σ H=>te σ H D.rt
theorem Hf(he:PE X e te):PS X (.Return (some e) pos) (M8 te):=by intro pins s σ H D I h;exact wpAny_Return_some (He (he pins s σ H _ I h) λv s1 ⟨x,H1,I1,r1,q1⟩=>⟨x,σ,H1,I1,r1,q1⟩)
def MA(c:TT)(t u:TS):TS:=λD σ H=>c σ H λb H1=>if b=true then t D σ H1 else u D σ H1
theorem HD{c:Expr}{a b:List Stmt}{tc:TT}(hc:PT X c tc)(ha:PSs X a t)(hb:PSs X b u):PS X (.If c a b pos) (MA tc t u):=by
 intro pins s σ H D I h;refine wpAny_If (He (hc pins s σ H _ I h) λd s1 ⟨H1,I1,q1⟩=>?_);cases d with
 | true=>exact ha pins s1 σ H1 D I1 q1
 | false=>exact hb pins s1 σ H1 D I1 q1
end
abbrev TG:=V→St→Hp→(St→Hp→Prop)→Prop
abbrev KS:=List V→St→Hp→(St→Hp→Prop)→Prop
def PG(X:Cx)(target:Expr)(t:TG):Prop:=
 ∀(pins:List (Addr×Obj))(s:Shared)(σ:St)(H:Hp)(v:V)(u:Value)(Q:St→Hp→Prop),Inv X pins σ H s→RelV v u→t v σ H Q→
  wpAny (model X.prog X.w) X.A (assign target X.env u) (λ_ s'=>∃σ' H',Inv X pins σ' H' s'∧Q σ' H') X.xe s
def MZ(X:Cx)(ts:List Expr)(t:KS):Prop:=
 ∀(pins:List (Addr×Obj))(s:Shared)(σ:St)(H:Hp)(vs:List V)(us:List Value)(Q:St→Hp→Prop),Inv X pins σ H s→Vals vs us→t vs σ H Q→
  wpAny (model X.prog X.w) X.A (assignInOrder ((assignEach ts X.env).map (·.2)) us) (λ_ s'=>∃σ' H',Inv X pins σ' H' s'∧Q σ' H') X.xe s
abbrev L5:=V→V→V→Hp→(Hp→Prop)→Prop
def MY(X:Cx)(t:L5):Prop:=
 ∀(pins:List (Addr×Obj))(s:Shared)(σ:St)(H:Hp)(o i v:V)(ov iv u:Value)(Q:Hp→Prop),Inv X pins σ H s→RelV o ov→RelV i iv→RelV v u→t o i v H Q→
  wpAny (model X.prog X.w) X.A (setItem ov iv u) (λ_ s'=>∃H',Inv X pins σ H' s'∧Q H') X.xe s
section
variable{X:Cx}
def LF(i:Nat):TG:=λv σ H Q=>Q (σ.set i (some v)) H
theorem HA{x:Str}(hN:X.N.Nodup)(hi:X.N[i]?=some x)(hx:Na X.env.scope x)(hf:X.fn x=true∨X.env.scope.names.lookup x=some .local:=by first | exact .inl rfl | exact .inr rfl | assumption):PG X (.Name x pos) (LF i):=by intro pins s σ H v u Q I r h;exact wpAny_assign_Name (OZ I hN hi hx r (λs' I'=>⟨_,H,I',h⟩) hf)
def Qz:KS:=λvs σ H Q=>vs=[]∧Q σ H
def UI(t:TG)(u:KS):KS:=λvs σ H Q=>∃v r,vs=v::r∧t v σ H λσ' H'=>u r σ' H' Q
theorem Ku:MZ X [] Qz:=by intro pins s σ H vs us Q I r h;obtain⟨e,h⟩:=h;subst e;cases r;exact assignInOrder_nil ⟨σ,H,I,h⟩
theorem Ix{es:List Expr}{t:TG}{u:KS}(h1:PG X e t)(h2:MZ X es u)
 (hs:(assignEach (e::es) X.env).map (·.2)=assign e X.env::(assignEach es X.env).map (·.2):=by rfl):MZ X (e::es) (UI t u):=by
 intro pins s σ H vs us Q I r h;obtain⟨v,vr,e1,h⟩:=h;subst e1;cases r with
 | cons r rr=> rw[hs];refine assignInOrder_cons (He (h1 pins s σ H _ _ _ I r h) λ_ s1 ⟨σ1,H1,I1,q1⟩=>?_);exact h2 pins s1 σ1 H1 _ _ Q I1 rr q1
def MW(K:Af)(n:Nat)(t:KS):TG:=λv σ H Q=>∃a xs,v= .ref a∧SqT K H a xs∧xs.length=n∧t xs σ H Q
theorem Kn{es:List Expr}{k:Nat}{t:KS}{n:Nat}(hc:X.calm=true)(h:MZ X es t)
 (hn:(assignEach es X.env).length=n:=by rfl) (hst:(assignEach es X.env).findIdx? (·.1)=none:=by rfl):PG X (.Tuple es k pos) (MW X.K n t):=by
 intro pins s σ H v u Q I r hw;obtain⟨a,xs,e1,hq,hl,hw⟩:=hw;subst e1;cases r;obtain⟨its,rv,ht,hz⟩:=I.tuple hq;refine assign_Tuple_tuple (I.ok.hd hc) ht (by simp[hn,←hl,rv.length]) hst λh' hx=>?_;have I1:Inv X pins σ H {s with heap:=h'}:=I.kept (t':=s.toks) λb o e=>hx b o (As (Ao e)) e
 exact h pins _ σ H xs _ Q I1 (by simpa using rv) hw
def Qy(to ti:TE)(t:L5):TG:=λv σ H Q=>to σ H λo H1=>ti σ H1 λi H2=>t o i v H2 λH3=>Q σ H3
theorem Nh{o i:Expr}{to ti:TE}{t:L5}(ho:PE X o to)(hi:PE X i ti)(hs:MY X t)
 (ha:∀v,assign (.Subscript o i pos) X.env v=(do
  let ov ←holding [v] (eval o X.env)
  let iv ←holding [v,ov] (eval i X.env)
  standAt pos
  holding [v,ov,iv] (setItem ov iv v)
  release [v,ov,iv] []):=by intro _;rfl):PG X (.Subscript o i pos) (Qy to ti t):=by
 intro pins s σ H v u Q I r h;rw[ha];refine Aa (Bn (He (ho pins s σ H _ I h) λov s1 ⟨x,H1,I1,r1,q1⟩=>?_));refine Aa (Bn (He (hi pins s1 σ H1 _ I1 q1) λiv s2 ⟨y,H2,I2,r2,q2⟩=>?_));refine Aa (Dj (Aa (Bn (He (hs pins s2 σ H2 x y v ov iv u _ I2 r1 r2 r q2) λ_ s3 ⟨H3,I3,q3⟩=>?_))));exact wpAny_release ⟨σ,H3,I3,q3⟩
def Ls(te:TE)(g:TG):TS:=λD σ H=>te σ H λx H1=>g x σ H1 D.nx
theorem JK{tg:Expr}{te:TE}{g:TG}(he:PE X e te)(hg:PG X tg g)(hs:swapsWithSole [tg] e pos.line X.env=pure false:=by rfl)(hw:swappedStores [tg] e X.env=pure none:=by rfl)
 (h1:(assignEach [tg] X.env).map (·.2)=[assign tg X.env]:=by rfl):PS X (.Assign [tg] e pos) (Ls te g):=by
 intro pins s σ H D I h;refine wpAny_Assign_stores (He (he pins s σ H _ I h) λv s1 ⟨x,H1,I1,r1,q1⟩=>?_) hs hw;rw[h1];exact He (hg pins s1 σ H1 x v _ I1 r1 q1) λ_ s2 q=>q
theorem Hz{x:Str}{te:TE}{pos':Pos}(hN:X.N.Nodup)(hi:X.N[i]?=some x)(hx:Na X.env.scope x)(he:PE X e te)(hs:swapsWith e (some (.Name x pos')) pos.line X.env=pure false:=by rfl)(hf:X.fn x=true∨X.env.scope.names.lookup x=some .local:=by first | exact .inl rfl | exact .inr rfl | assumption):
 PS X (.Assign [.Name x pos'] e pos) (Ls te (LF i)):=by
 intro pins s σ H D I h;refine wpAny_Assign_Name (He (he pins s σ H _ I h) λv s1 ⟨y,H1,I1,r1,q1⟩=>?_) hs;exact OZ I1 hN hi hx r1 (λs2 I2=>⟨_,H1,I2,q1⟩) hf
end
section
variable{X:Cx}
def Rk(c:TT)(tb:TS):TS:=λD σ H=>∃W:Nat→St→Hp→Prop,(∃m,W m σ H)∧∀m σ H,W m σ H→
 c σ H λb H1=>if b=true then ∃N:St→Hp→Prop,(∀σ' H',N σ' H'→∃m',m'<m∧W m' σ' H')∧tb {D with nx:=N,ct:=N,bk:=D.nx} σ H1 else D.nx σ H1
theorem WQ{c:Expr}{body:List Stmt}{tc:TT}{tb:TS}(hp:PassesOwn (model X.prog X.w) X.A X.env X.xe)(hc:PT X c tc)(hb:PSs X body tb):PS X (.While c body [] pos) (Rk tc tb):=by
 intro pins s σ H D I h;obtain⟨W,⟨m0,w0⟩,turn⟩:=h;refine wpAny_While (codeAny_whileLoop (λn s'=>∃σ' H',Inv X pins σ' H' s'∧W n σ' H') ?_ m0 ⟨σ,H,I,w0⟩);rintro n s1 ⟨σ1,H1,I1,w1⟩;refine C5 hp (He (hc pins s1 σ1 H1 _ I1 (turn n σ1 H1 w1)) λb s2 ⟨H2,I2,q2⟩=>?_);cases b with
 | true=>
  obtain⟨N,hN,q2⟩:=q2;rw[if_pos rfl];refine C5 hp (He (hb pins s2 σ1 H2 _ I2 q2) λf s3 q3=>?_);cases f with
  | next=> obtain⟨σ3,H3,I3,n3⟩:=q3;obtain⟨m',hm,w3⟩:=hN σ3 H3 n3;exact⟨m',hm,σ3,H3,I3,w3⟩
  | cont=> obtain⟨σ3,H3,I3,n3⟩:=q3;obtain⟨m',hm,w3⟩:=hN σ3 H3 n3;exact⟨m',hm,σ3,H3,I3,w3⟩
  | brk=>exact q3
  | ret v=>exact q3
 | false=> rw[if_neg Aw];exact Do ⟨σ1,H2,I2,q2⟩
end
structure It where
 go:Nat→Hp→Prop
 yld:Nat→Hp→V→Hp→Prop
 stop:Nat→Hp→Prop
def HG(X:Cx)(pins:List (Addr×Obj))(H:Hp)(b:Addr):Prop:=
 H b=none∧b≠X.env.locals∧b ∉ X.fs∧(b∈X.ex∨X.s₀.heap.objs.size≤b)∧(∀x c,X.env.cells.lookup x=some c→c≠b)∧∀p∈X.pn++pins,p.1≠b
theorem Inv.fpOk{X:Cx}{σ:St}{H H':Hp}(I:Inv X pins σ H s)(hb:s.heap.objs.size≤b)(hn:H' b=none):HG X pins H' b:=by
 refine⟨hn,CH (Av I.lt hb),I.nofs hb,.inr (A8 I.sz hb),λx c e z=>?_,λp hp z=>?_⟩
 · obtain⟨v,q⟩:=I.cell x c e;exact absurd (Av q.lt (by rw[z];exact hb)) (CU _)
 · exact absurd (Av (Ao (I.pin p hp).1) (by rw[z];exact hb)) (CU _)
structure Turn(P:Bk)(w:World)(K:Af)(tg:Expr)(J:It)(fp:List Addr)(it:Addr)(tn:Nat→Heap→Prop):Prop where
 mem:it∈fp
 obj:∀i h,tn i h→∀b∈fp,∃o,h.get? b=some o∧∀v,o.data≠ .cell v
 keep:∀i h h',tn i h→(∀b∈fp,∀o,h.get? b=some o→h'.get? b=some o)→tn i h'
 item:∀(X:Cx),X.prog=P→X.w=w→X.K=K→X.calm=true→∀(i:Nat)(pins:List (Addr×Obj))(s:Shared)(σ:St)(H:Hp)(E:Value→Shared→Prop),Inv X pins σ H s→(∀b∈fp,HG X pins H b)→tn i s.heap→J.go i H→
  wpAny (model P w) X.A (pyNext (.ref it)) (λr s1=>∃u,r=some u∧
   wpAny (model P w) X.A (Dp tg (.ref it) u) (λ_ s2=>∃x H',Inv X pins σ H' s2∧RelV x u∧J.yld i H x H'∧tn (i+1) s2.heap∧∀b∈fp,H' b=none) E s1) E s
 done:∀(X:Cx),X.prog=P→X.w=w→X.K=K→X.calm=true→∀(i:Nat)(pins:List (Addr×Obj))(s:Shared)(σ:St)(H:Hp)(E:Value→Shared→Prop),Inv X pins σ H s→(∀b∈fp,HG X pins H b)→tn i s.heap→J.stop i H→
  wpAny (model P w) X.A (pyNext (.ref it)) (λr s1=>r=none∧Inv X pins σ H s1) E s
 self:∀(A:Bq)(i:Nat)(s:Shared)(Q:Value→Shared→Prop)(E:Value→Shared→Prop),tn i s.heap→Q (.ref it) s→wpAny (model P w) A (pyIter (.ref it)) Q E s
abbrev TI:=St→Hp→(It→Hp→Prop)→Prop
def Uo(X:Cx)(pins:List (Addr×Obj))(σ:St)(tg:Expr)(R:It→Hp→Prop)(itv:Value)(s2:Shared):Prop:=
 ∃(it:Addr)(fp:List Addr)(tn:Nat→Heap→Prop)(J:It)(H':Hp),itv= .ref it∧Inv X pins σ H' s2∧Turn X.prog X.w X.K tg J fp it tn∧tn 0 s2.heap∧(∀b∈fp,HG X pins H' b)∧R J H'
def PI(X:Cx)(tg iter:Expr)(wi:TI):Prop:=
 ∀(pins:List (Addr×Obj))(s:Shared)(σ:St)(H:Hp)(R:It→Hp→Prop),Inv X pins σ H s→wi σ H R→
  wpAny (model X.prog X.w) X.A (eval iter X.env) (λv s1=>wpAny (model X.prog X.w) X.A (pyIter v) (Uo X pins σ tg R) X.xe s1) X.xe s
theorem Mg{M:Model}{A:Bq}{E:Value→Shared→Prop}{tg:Expr}{it:Addr}{u:Value}{o:Obj}{n:String}{vs:Array Value}{Q:Unit→Shared→Prop}(ho:s.heap.get? it=some o)(hc:o.cls= .type n)(hd:o.data= .fields vs)
 (hn:["enumerate","zip","dict_itemiterator","dict_reverseitemiterator","odict_iterator","itertools.zip_longest","itertools.pairwise"].contains n=false) (hQ:Q () s):wpAny M A (Dp tg (.ref it) u) Q E s:=by
 unfold Dp;cases tg<;>first
  | exact Ac hQ
  | (cases u<;>first
   | exact Ac hQ
   | (refine Aa (wpAny_load ho ?_)
      rw[hc,hd];show wpAny M A (if(["enumerate","zip","dict_itemiterator","dict_reverseitemiterator","odict_iterator","itertools.zip_longest","itertools.pairwise"].contains n && vs[0]?==some (rawInt _))=true then _ else _) Q E s
      rw[if_neg (by intro h;rw[hn,Ek] at h;cases h)];exact Ac hQ))
def KY(K:Af)(a:Addr):It:=
 ⟨λi H=>∃xs x,SqL K H a xs∧xs[i]?=some x,λi H x H'=>H'=H∧∀xs,SqL K H a xs→xs[i]?=some x,λi H=>∃xs,SqL K H a xs∧xs.length≤i⟩
def L9(K:Af)(a:Addr):It:=
 ⟨λi H=>∃xs x,SqT K H a xs∧xs[i]?=some x,λi H x H'=>H'=H∧∀xs,SqT K H a xs→xs[i]?=some x,λi H=>∃xs,SqT K H a xs∧xs.length≤i⟩
def KW(lo:Int)(n:Nat):It:=⟨λi _=>i<n,λi H x H'=>H'=H∧x= .int (lo+i),λi _=>n≤i⟩
theorem XJ{tg:Expr}(a it:Addr):Turn P w K tg (KY K a) [it] it (λi h=>h.IsListIter it a i) where
 mem:=by simp
 obj:=λi h st b hb=>by
  have e:b=it:=by simpa using hb
  subst e;obtain⟨o,e,c,d⟩:=st;exact⟨o,e,λv z=>by rw[d] at z;cases z⟩
 keep:=λi h h' st k=>st.at λo e=>k it (by simp) o e
 item:=by
  intro X hP hw hK hc i pins s σ H E I hf st hg;subst hP hw hK;obtain⟨xs,x,hq,hx⟩:=hg;obtain⟨its,rv,p,hz⟩:=I.list hq;obtain⟨u,hu,ru⟩:=rv.get hx;obtain⟨f0,f1,f2,f3,f4,f5⟩:=hf it (by simp);refine wpAny_pyNext_list_item st p.isList (x:=u) (by simpa using hu) λh' st' sb=>?_;have I1:Inv X pins σ H {s with heap:=h'}:=I.turned (t':=s.toks) (λb o hb e=>(sb.2 b hb).trans e) f0 f1 f3 f4 f5
  obtain⟨o,e,c,d⟩:=id st';exact⟨u,rfl,Mg (s:={s with heap:=h'}) e c d (by decide) ⟨x,H,I1,ru,⟨rfl,λys hy=>by rw[I.list_inj hy hq];exact hx⟩,st',λb hb=>(hf b hb).1⟩⟩
 done:=by intro X hP hw hK hc i pins s σ H E I hf st hg;subst hP hw hK;obtain⟨xs,hq,hx⟩:=hg;obtain⟨its,rv,p,hz⟩:=I.list hq;obtain⟨f0,f1,f2,f3,f4,f5⟩:=hf it (by simp);have hl:=rv.length;exact wpAny_pyNext_list_end (I.ok.hd hc) st p.isList (by simp;omega) λh' eb=>⟨rfl,I.turned (t':=s.toks) (λb o hb e=>eb b o hb e) f0 f1 f3 f4 f5⟩
 self:=λ_ _ _ _ _ st h=>wpAny_pyIter_listiter st h
theorem Yu{tg:Expr}(a it:Addr):Turn P w K tg (L9 K a) [it] it (λi h=>h.IsTupleIter it a i) where
 mem:=by simp
 obj:=λi h st b hb=>by
  have e:b=it:=by simpa using hb
  subst e;obtain⟨o,e,c,d⟩:=st;exact⟨o,e,λv z=>by rw[d] at z;cases z⟩
 keep:=λi h h' st k=>st.at λo e=>k it (by simp) o e
 item:=by
  intro X hP hw hK hc i pins s σ H E I hf st hg;subst hP hw hK;obtain⟨xs,x,hq,hx⟩:=hg;obtain⟨its,rv,p,hz⟩:=I.tuple hq;obtain⟨u,hu,ru⟩:=rv.get hx;obtain⟨f0,f1,f2,f3,f4,f5⟩:=hf it (by simp);refine wpAny_pyNext_tuple_item st (show s.heap.IsTuple a its.toArray from p) (x:=u) (by simpa using hu) λh' st' sb=>?_;have I1:Inv X pins σ H {s with heap:=h'}:=I.turned (t':=s.toks) (λb o hb e=>(sb.2 b hb).trans e) f0 f1 f3 f4 f5
  obtain⟨o,e,c,d⟩:=id st';exact⟨u,rfl,Mg (s:={s with heap:=h'}) e c d (by decide) ⟨x,H,I1,ru,⟨rfl,λys hy=>by rw[I.tuple_inj hy hq];exact hx⟩,st',λb hb=>(hf b hb).1⟩⟩
 done:=by intro X hP hw hK hc i pins s σ H E I hf st hg;subst hP hw hK;obtain⟨xs,hq,hx⟩:=hg;obtain⟨its,rv,p,hz⟩:=I.tuple hq;obtain⟨f0,f1,f2,f3,f4,f5⟩:=hf it (by simp);have hl:=rv.length;exact wpAny_pyNext_tuple_end (I.ok.hd hc) st (show s.heap.IsTuple a its.toArray from p) (by simp;omega) λh' eb=>⟨rfl,I.turned (t':=s.toks) (λb o hb e=>eb b o hb e) f0 f1 f3 f4 f5⟩
 self:=λ_ _ _ _ _ st h=>wpAny_pyIter_tupleiter st h
theorem Yt{tg:Expr}(it:Addr)(lo:Int)(n:Nat):Turn P w K tg (KW lo n) [it] it (λi h=>IsRangeIter h it (lo+(i:Nat)*1) ((n:Int) - (i:Nat)) 1) where
 mem:=by simp
 obj:=λi h st b hb=>by
  have e:b=it:=by simpa using hb
  subst e;exact⟨_,st,λv z=>by have z':Data.fields _=Data.cell v:=z;cases z'⟩
 keep:=λi h h' st k=>k it (by simp) _ st
 item:=by
  intro X hP hw hK hc i pins s σ H E I hf st hg;subst hP hw hK;obtain⟨f0,f1,f2,f3,f4,f5⟩:=hf it (by simp);have W:=Walks.range (prog:=X.prog) (w:=X.w) (I.ok.hd hc) it lo 1 n;refine W.item i s _ _ hg st λv h' tk hv st' kk=>?_;obtain⟨t,rfl⟩:=hv;have I1:Inv X pins σ H {s with heap:=h',toks:=tk}:=I.turned (λb o hb e=>kk b o (by simpa using hb) e) f0 f1 f3 f4 f5
  refine⟨_,rfl,Mg (s:={s with heap:=h',toks:=tk}) (n:="range_iterator") st' rfl rfl (by decide) ⟨.int (lo+i),H,I1,⟨t,?_⟩,⟨rfl,rfl⟩,st',λb hb=>(hf b hb).1⟩⟩
  rw[Int.mul_one]
 done:=by intro X hP hw hK hc i pins s σ H E I hf st hg;subst hP hw hK;obtain⟨f0,f1,f2,f3,f4,f5⟩:=hf it (by simp);exact wpAny_pyNext_range_end (I.ok.hd hc) st (by have:n≤i:=hg;omega) λh' eb=>⟨rfl,I.turned (t':=s.toks) (λb o hb e=>eb b o hb e) f0 f1 f3 f4 f5⟩
 self:=λ_ _ _ _ _ st h=>wpAny_pyIter_rangeiter st h
section
variable{X:Cx}{tg:Expr}
def UK(K:Af)(tl:TE):TI:=λσ H R=>tl σ H λx H1=>∃a,x= .ref a∧(∃xs,SqL K H1 a xs)∧R (KY K a) H1
def Qr(K:Af)(tl:TE):TI:=λσ H R=>tl σ H λx H1=>∃a,x= .ref a∧(∃xs,SqT K H1 a xs)∧R (L9 K a) H1
theorem Kg{l:Expr}{tl:TE}(hl:PE X l tl):PI X tg l (UK X.K tl):=by
 intro pins s σ H R I h;refine He (hl pins s σ H _ I h) λv s1 ⟨x,H1,I1,r1,q1⟩=>?_;obtain⟨a,e,⟨xs,hq⟩,q⟩:=q1;subst e;cases r1;obtain⟨its,rv,p,hz⟩:=I1.list hq;refine E7 p.isList ?_;refine⟨s1.heap.objs.size,[s1.heap.objs.size],_,_,H1,rfl,I1.kept (t':=s1.toks) λb o e=>Ad _ e,XJ a _,⟨_,Aq _ rfl,rfl,rfl⟩,λb hb=>?_,q⟩;have e:b=s1.heap.objs.size:=by simpa using hb
 subst e;exact I1.fpOk (Ae _) (I1.hok.fresh (Ae _))
theorem Nj{l:Expr}{tl:TE}(hl:PE X l tl):PI X tg l (Qr X.K tl):=by
 intro pins s σ H R I h;refine He (hl pins s σ H _ I h) λv s1 ⟨x,H1,I1,r1,q1⟩=>?_;obtain⟨a,e,⟨xs,hq⟩,q⟩:=q1;subst e;cases r1;obtain⟨its,rv,p,hz⟩:=I1.tuple hq;refine Eo (show s1.heap.IsTuple a its.toArray from p) ?_;refine⟨s1.heap.objs.size,[s1.heap.objs.size],_,_,H1,rfl,I1.kept (t':=s1.toks) λb o e=>Ad _ e,Yu a _,⟨_,Aq _ rfl,rfl,rfl⟩,λb hb=>?_,q⟩;have e:b=s1.heap.objs.size:=by simpa using hb
 subst e;exact I1.fpOk (Ae _) (I1.hok.fresh (Ae _))
theorem WT{σ:St}{H:Hp}{R:It→Hp→Prop}{E:Value→Shared→Prop}{lo hi:Int}{t u v:Tok}{tk:Nat}(I:Inv X pins σ H s)(h1: -(2^62)≤lo)(h2:lo<2^62)(h3: -(2^62)≤hi)(h4:hi<2^62)
 (q:R (KW lo (hi - lo).toNat) H):wpAny (model X.prog X.w) X.A (pyIter (.ref s.heap.objs.size)) (Uo X pins σ tg R) E {s with heap:=s.heap.push {cls:= .type "range",data:= .fields #[.int lo t,.int hi u,.int 1 v]},toks:=tk}:=by
 refine wpAny_pyIter_range (IsRange.new ..) (small_one h1 h2 h3 h4) ?_;have I1:Inv X pins σ H {s with heap:=s.heap.push {cls:= .type "range",data:= .fields #[.int lo t,.int hi u,.int 1 v]},toks:=tk}:=I.kept λb o e=>Ad _ e
 refine⟨(s.heap.push {cls:= .type "range",data:= .fields #[.int lo t,.int hi u,.int 1 v]}).objs.size,[(s.heap.push {cls:= .type "range",data:= .fields #[.int lo t,.int hi u,.int 1 v]}).objs.size],_,_,H,rfl,
  I1.kept (t':=tk) λb o e=>Ad _ e,Yt _ lo (hi - lo).toNat,?_,λb hb=>?_,q⟩
 · have e1:lo+((0:Nat):Int)*1=lo:=by simp
   have e2:(((hi - lo).toNat:Nat):Int) - ((0:Nat):Int)=Builtin.Range.rangeSize lo hi 1:=by rw[rangeSize_one];split<;>omega
   show IsRangeIter _ _ (lo+((0:Nat):Int)*1) ((((hi - lo).toNat:Nat):Int) - ((0:Nat):Int)) 1;rw[e1,e2];exact Aq _ rfl
 · have e:b=(s.heap.push {cls:= .type "range",data:= .fields #[.int lo t,.int hi u,.int 1 v]}).objs.size:=by simpa using hb
   subst e;exact I1.fpOk (Ae _) (I1.hok.fresh (Ae _))
def UL(ta:TA):TI:=λσ H R=>ta σ H λvs H1=>∃j:Int,vs=[.int j]∧ -(2^62)≤j∧j<2^62∧R (KW 0 j.toNat) H1
theorem Kq{a:Expr}{ta:TA}{p:Pos}(hg:Gl X "range")(hm:X.mg "range"=none)(ha:PA X [a] ta)(hs:A1 [a] X.env=[(false,eval a X.env)]:=by rfl):PI X tg (.Call (.Name "range" p) [a] [] pos) (UL ta):=by
 intro pins s σ H R I h;refine Call_ (KE I hg hm boot_range (Cu (He (ha pos pins s σ H _ I h) λus s1 ⟨vs,H1,I1,r1,q1⟩=>?_) hs rfl));obtain⟨j,e,q1,q2,q⟩:=q1;subst e;cases r1 with
 | cons r rr=> cases rr;obtain⟨t,rfl⟩:=r;exact call_range_1 (WT I1 (by omega) (by omega) q1 q2 (by simpa using q))
def PY(wi:TI)(g:TG)(tb:TS):TS:=λD σ H=>wi σ H λJ H1=>∃W:Nat→Nat→St→Hp→Prop,(∃m,W 0 m σ H1)∧∀i m σ H,W i m σ H→
 (J.stop i H∧D.nx σ H)∨(J.go i H∧∃N:St→Hp→Prop,(∀σ' H',N σ' H'→∃m',m'<m∧W (i+1) m' σ' H')∧∀x H',J.yld i H x H'→g x σ H' λσ2 H2=>tb {D with nx:=N,ct:=N,bk:=D.nx} σ2 H2)
def KG(fp:List Addr)(h:Heap):List (Addr×Obj):=fp.filterMap λb=>(h.get? b).map λo=>(b,o)
theorem L_{fp:List Addr}{o:Obj}(hb:b∈fp)(e:h.get? b=some o):(b,o)∈KG fp h:=Cd.mpr ⟨b,hb,by rw[e];rfl⟩
theorem Xu{fp:List Addr}{p:Addr×Obj}(hp:p∈KG fp h):p.1∈fp∧h.get? p.1=some p.2:=by
 obtain⟨b,hb,e⟩:=Cd.mp hp;cases q:h.get? b with
 | none=>rw[q] at e;cases e
 | some o=> rw[q] at e;have e':(b,o)=p:=Am e;subst e';exact⟨hb,q⟩
theorem Inv.pinned{σ:St}{H:Hp}{fp:List Addr}(I:Inv X pins σ H s)(hf:∀b∈fp,HG X pins H b)(ho:∀b∈fp,∃o,s.heap.get? b=some o∧∀v,o.data≠ .cell v):Inv X (pins++KG fp s.heap) σ H s:=
 I.pins_of λp hp=>(A6.mp hp).elim (λz=>I.pin p (AB _ z)) λz=>by obtain⟨hb,e⟩:=Xu z;obtain⟨f0,f1,f2,_⟩:=hf p.1 hb;obtain⟨o,e',d⟩:=ho p.1 hb;rw[e] at e';cases e';exact⟨e,f0,f1,f2,d⟩
theorem Inv.unpinned{pl:List (Addr×Obj)}{σ:St}{H:Hp}(I:Inv X (pins++pl) σ H s):Inv X pins σ H s:=I.pins_of λp hp=>I.pin p (AB _ (Cg _ hp))
theorem KH{iter:Expr}{body:List Stmt}{wi:TI}{g:TG}{tb:TS}{pos:Pos}(hp:PassesOwn (model X.prog X.w) X.A X.env X.xe)(hc:X.calm=true)(hi:PI X tg iter wi)(hg:PG X tg g)(hb:PSs X body tb)
 (hs:∀x,D3 iter X.env x=pure x:=by intro _;rfl):PS X (.For tg iter body [] pos) (PY wi g tb):=by
 intro pins s σ H D I h;refine wpAny_For (He (hi pins s σ H _ I h) λv s1 h1=>He h1 λitv s2 h2=>?_) hs;obtain⟨it,fp,tn,J,H2,e,I2,T,st2,f2,W,⟨m0,w0⟩,turn⟩:=h2;subst e;have stat:∀{H':Hp},(∀b∈fp,H' b=none)→∀b∈fp,HG X pins H' b:=λhn b hb=>⟨hn b hb,(f2 b hb).2⟩;refine codeAny_forLoop_any (λn s'=>∃i σ' H',Inv X pins σ' H' s'∧tn i s'.heap∧(∀b∈fp,H' b=none)∧W i n σ' H') ?_ m0 ⟨0,σ,H2,I2,st2,λb hb=>(f2 b hb).1,w0⟩;rintro n s3 ⟨i,σ3,H3,I3,st3,fr3,w3⟩;rcases turn i n σ3 H3 w3 with⟨stop,qn⟩ | ⟨go,N,hN,step⟩
 · refine C5 hp (He (T.done X rfl rfl rfl hc i pins s3 σ3 H3 X.xe I3 (stat fr3) st3 stop) λr s4 ⟨hr,I4⟩=>?_);subst hr;exact Do ⟨σ3,H3,I4,qn⟩
 · refine C5 hp (He (T.item X rfl rfl rfl hc i pins s3 σ3 H3 X.xe I3 (stat fr3) st3 go) λr s4 ⟨u,hr,h4⟩=>?_);subst hr;refine C5 hp (He h4 λ_ s5 ⟨x,H5,I5,r5,y5,st5,fr5⟩=>?_);have I5':=I5.pinned (stat fr5) (T.obj _ _ st5);refine C5 hp (He (hg _ s5 σ3 H5 x u _ I5' r5 (step x H5 y5)) λ_ s6 ⟨σ6,H6,I6,q6⟩=>?_);refine C5 hp (He (hb _ s6 σ6 H6 _ I6 q6) λf s7 q7=>?_);have again:∀{σ7:St}{H7:Hp},Inv X (pins++KG fp s5.heap) σ7 H7 s7→N σ7 H7→∃m,m<n∧∃i σ' H',Inv X pins σ' H' s7∧tn i s7.heap∧(∀b∈fp,H' b=none)∧W i m σ' H':=λ{σ7 H7}I7 n7=>by
    obtain⟨m',hm,w7⟩:=hN σ7 H7 n7;refine⟨m',hm,i+1,σ7,H7,I7.unpinned,T.keep _ _ _ st5 λb hb o e=>(I7.pin (b,o) (AB _ (AB _ (L_ hb e)))).1,λb hb=>?_,w7⟩;obtain⟨o,e,d⟩:=T.obj _ _ st5 b hb;exact(I7.pin (b,o) (AB _ (AB _ (L_ hb e)))).2.1
   cases f with
   | next=>obtain⟨σ7,H7,I7,n7⟩:=q7;exact again I7 n7
   | cont=>obtain⟨σ7,H7,I7,n7⟩:=q7;exact again I7 n7
   | brk=>obtain⟨σ7,H7,I7,q7⟩:=q7;exact⟨σ7,H7,I7.unpinned,q7⟩
   | ret v=>obtain⟨x7,σ7,H7,I7,r7,q7⟩:=q7;exact⟨x7,σ7,H7,I7.unpinned,r7,q7⟩
end
theorem My{xs:List V}{g:TG}{tb:TS}{D:Ends}{σ:St}{H:Hp}(Pv:Nat→St→Hp→Prop)(h0:Pv 0 σ H)(hl:∀i σ H,i≤xs.length→Pv i σ H→SqL K H a xs)
 (hs:∀i x σ H,xs[i]?=some x→Pv i σ H→g x σ H λσ2 H2=>tb {D with nx:=Pv (i+1),ct:=Pv (i+1),bk:=D.nx} σ2 H2) (hd:∀σ H,Pv xs.length σ H→D.nx σ H):
 ∃W:Nat→Nat→St→Hp→Prop,(∃m,W 0 m σ H)∧∀i m σ H,W i m σ H→
  ((KY K a).stop i H∧D.nx σ H)∨((KY K a).go i H∧∃N:St→Hp→Prop,(∀σ' H',N σ' H'→∃m',m'<m∧W (i+1) m' σ' H')∧∀x H',(KY K a).yld i H x H'→g x σ H' λσ2 H2=>tb {D with nx:=N,ct:=N,bk:=D.nx} σ2 H2):=by
 refine⟨λi m σ H=>m=xs.length - i∧i≤xs.length∧Pv i σ H,⟨xs.length,by simp,AX _,h0⟩,?_⟩;rintro i m σ H ⟨rfl,hi,p⟩;have q:=hl i σ H hi p;by_cases hlt:i<xs.length
 · refine .inr ⟨⟨xs,xs[i],q,by simp[hlt]⟩,Pv (i+1),λσ' H' p'=>⟨xs.length - (i+1),by omega,rfl,hlt,p'⟩,λx H' y=>?_⟩;obtain⟨e,y⟩:=y;subst e;exact hs i x σ _ (y xs q) p
 · have e:i=xs.length:=by omega
   subst e;exact .inl ⟨⟨xs,q,Ae _⟩,hd σ H p⟩
theorem W4{xs:List V}{g:TG}{tb:TS}{D:Ends}{σ:St}{H:Hp}(Pv:Nat→St→Hp→Prop)(h0:Pv 0 σ H)(hl:∀i σ H,i≤xs.length→Pv i σ H→SqT K H a xs)
 (hs:∀i x σ H,xs[i]?=some x→Pv i σ H→g x σ H λσ2 H2=>tb {D with nx:=Pv (i+1),ct:=Pv (i+1),bk:=D.nx} σ2 H2) (hd:∀σ H,Pv xs.length σ H→D.nx σ H):
 ∃W:Nat→Nat→St→Hp→Prop,(∃m,W 0 m σ H)∧∀i m σ H,W i m σ H→
  ((L9 K a).stop i H∧D.nx σ H)∨((L9 K a).go i H∧∃N:St→Hp→Prop,(∀σ' H',N σ' H'→∃m',m'<m∧W (i+1) m' σ' H')∧∀x H',(L9 K a).yld i H x H'→g x σ H' λσ2 H2=>tb {D with nx:=N,ct:=N,bk:=D.nx} σ2 H2):=by
 refine⟨λi m σ H=>m=xs.length - i∧i≤xs.length∧Pv i σ H,⟨xs.length,by simp,AX _,h0⟩,?_⟩;rintro i m σ H ⟨rfl,hi,p⟩;have q:=hl i σ H hi p;by_cases hlt:i<xs.length
 · refine .inr ⟨⟨xs,xs[i],q,by simp[hlt]⟩,Pv (i+1),λσ' H' p'=>⟨xs.length - (i+1),by omega,rfl,hlt,p'⟩,λx H' y=>?_⟩;obtain⟨e,y⟩:=y;subst e;exact hs i x σ _ (y xs q) p
 · have e:i=xs.length:=by omega
   subst e;exact .inl ⟨⟨xs,q,Ae _⟩,hd σ H p⟩
theorem OW{lo:Int}{n:Nat}{g:TG}{tb:TS}{D:Ends}{σ:St}{H:Hp}(Pv:Nat→St→Hp→Prop)(h0:Pv 0 σ H)
 (hs:∀i σ H,i<n→Pv i σ H→g (.int (lo+i)) σ H λσ2 H2=>tb {D with nx:=Pv (i+1),ct:=Pv (i+1),bk:=D.nx} σ2 H2) (hd:∀σ H,Pv n σ H→D.nx σ H):
 ∃W:Nat→Nat→St→Hp→Prop,(∃m,W 0 m σ H)∧∀i m σ H,W i m σ H→
  ((KW lo n).stop i H∧D.nx σ H)∨((KW lo n).go i H∧∃N:St→Hp→Prop,(∀σ' H',N σ' H'→∃m',m'<m∧W (i+1) m' σ' H')∧∀x H',(KW lo n).yld i H x H'→g x σ H' λσ2 H2=>tb {D with nx:=N,ct:=N,bk:=D.nx} σ2 H2):=by
 refine⟨λi m σ H=>m=n - i∧i≤n∧Pv i σ H,⟨n,by simp,AX _,h0⟩,?_⟩;rintro i m σ H ⟨rfl,hi,p⟩;by_cases hlt:i<n
 · refine .inr ⟨hlt,Pv (i+1),λσ' H' p'=>⟨n - (i+1),by omega,rfl,hlt,p'⟩,λx H' y=>?_⟩;obtain⟨e,y⟩:=y;subst e y;exact hs i σ _ hlt p
 · have e:i=n:=by omega
   subst e;exact .inl ⟨Ae _,hd σ H p⟩
abbrev R2:=V→V→Hp→VK→Prop
def HQ(X:Cx)(f:Value→Value→Sem Value)(r:R2):Prop:=
 ∀(pins:List (Addr×Obj))(s:Shared)(σ:St)(H:Hp)(x y:V)(v u:Value)(Q:VK),Inv X pins σ H s→RelV x v→RelV y u→r x y H Q→
  wpAny (model X.prog X.w) X.A (f v u) (EP X pins σ Q) X.xe s
def Q3(X:Cx)(f:Value→Sem Value)(r:V→Hp→VK→Prop):Prop:=
 ∀(pins:List (Addr×Obj))(s:Shared)(σ:St)(H:Hp)(x:V)(v:Value)(Q:VK),Inv X pins σ H s→RelV x v→r x H Q→
  wpAny (model X.prog X.w) X.A (f v) (EP X pins σ Q) X.xe s
def IZ(X:Cx)(f:Value)(r:List V→Hp→VK→Prop):Prop:=
 ∀(pins:List (Addr×Obj))(s:Shared)(σ:St)(H:Hp)(xs:List V)(us:List Value)(Q:VK),Inv X pins σ H s→Vals xs us→r xs H Q→
  wpAny (model X.prog X.w) X.A (call f us) (EP X pins σ Q) X.xe s
def Lr(r:R2)(ta tb:TE):TE:=λσ H Q=>ta σ H λx H1=>tb σ H1 λy H2=>r x y H2 Q
def ZN(r:V→Hp→VK→Prop)(ta:TE):TE:=λσ H Q=>ta σ H λx H1=>r x H1 Q
def rI(C:Int→Int→Prop)(g:Int→Int→V):R2:=λx y H Q=>∃i j,x= .int i∧y= .int j∧C i j∧Q (g i j) H
def K2(g:Int→Int→V):R2:=λx y H Q=>∃i j,x= .int i∧y= .int j∧Q (g i j) H
def rU(g:Int→V):V→Hp→VK→Prop:=λx H Q=>∃i,x= .int i∧Q (g i) H
section
variable{X:Cx}{a b c:Expr}{ta tb tc:TE}
theorem Ly(ha:PE X a ta)(hb:PE X b tb){σ:St}{H:Hp}{R:V→V→Hp→Prop}(I:Inv X pins σ H s)
 (h:ta σ H λx H1=>tb σ H1 λy H2=>R x y H2) {Q:Value→Shared→Prop} {f:Value→Value→Sem Value}
 (hf:∀v u s2 x y H2,Inv X pins σ H2 s2→RelV x v→RelV y u→R x y H2→wpAny (model X.prog X.w) X.A (f v u) Q X.xe s2):
 wpAny (model X.prog X.w) X.A (eval a X.env) (λv s₁=>wpAny (model X.prog X.w) X.A (eval b X.env) (λu s₂=>wpAny (model X.prog X.w) X.A (f v u) Q X.xe s₂) X.xe s₁) X.xe s:=by
 refine He (ha pins s σ H _ I h) λv s1 ⟨x,H1,I1,r1,q1⟩=>?_;refine He (hb pins s1 σ H1 _ I1 q1) λu s2 ⟨y,H2,I2,r2,q2⟩=>?_;exact hf v u s2 x y H2 I2 r1 r2 q2
theorem Hi{op:Operator}{r:R2}(ho:HQ X (binaryOp op) r)(ha:PE X a ta)(hb:PE X b tb):PE X (.BinOp a op b pos) (Lr r ta tb):=by intro pins s σ H Q I h;exact wpAny_BinOp (Ly ha hb I h λv u s2 x y H2 I2 rx ry q=>ho pins s2 σ H2 x y v u Q I2 rx ry q)
theorem QK{op:UnaryOp}{r:V→Hp→VK→Prop}(ho:Q3 X (unaryOp op) r)(ha:PE X a ta):PE X (.UnaryOp op a pos) (ZN r ta):=by intro pins s σ H Q I h;exact UnaryOp_ (He (ha pins s σ H _ I h) λv s1 ⟨x,H1,I1,r1,q1⟩=>ho pins s1 σ H1 x v Q I1 r1 q1)
theorem Oc{f:Value→Value→Sem Value}{C:Int→Int→Prop}{g:Int→Int→Int}
 (rule:∀(i j:Int)(t u:Tok)(s:Shared)(Q:Value→Shared→Prop)(E:Value→Shared→Prop),C i j→Q (.int (g i j) s.toks) {s with toks:=s.toks+1}→wpAny (model X.prog X.w) X.A (f (.int i t) (.int j u)) Q E s):
 HQ X f (rI C λi j=> .int (g i j)):=by
 intro pins s σ H x y v u Q I rx ry h;obtain⟨i,j,rfl,rfl,hc,q⟩:=h;obtain⟨t,rfl⟩:=rx;obtain⟨t',rfl⟩:=ry;exact rule i j t t' s _ _ hc ⟨.int (g i j),H,I.tok _,⟨_,rfl⟩,q⟩
theorem ML{f:Value→Value→Sem Value}{g:Int→Int→Int}
 (rule:∀(i j:Int)(t u:Tok)(s:Shared)(Q:Value→Shared→Prop)(E:Value→Shared→Prop),Q (.int (g i j) s.toks) {s with toks:=s.toks+1}→wpAny (model X.prog X.w) X.A (f (.int i t) (.int j u)) Q E s):
 HQ X f (K2 λi j=> .int (g i j)):=by
 intro pins s σ H x y v u Q I rx ry h;obtain⟨i,j,rfl,rfl,q⟩:=h;obtain⟨t,rfl⟩:=rx;obtain⟨t',rfl⟩:=ry;exact rule i j t t' s _ _ ⟨.int (g i j),H,I.tok _,⟨_,rfl⟩,q⟩
theorem K3{f:Value→Value→Sem Value}{g:Int→Int→Bool}
 (rule:∀(i j:Int)(t u:Tok)(s:Shared)(Q:Value→Shared→Prop)(E:Value→Shared→Prop),Q (.bool (g i j)) s→wpAny (model X.prog X.w) X.A (f (.int i t) (.int j u)) Q E s):
 HQ X f (K2 λi j=> .bl (g i j)):=by
 intro pins s σ H x y v u Q I rx ry h;obtain⟨i,j,rfl,rfl,q⟩:=h;obtain⟨t,rfl⟩:=rx;obtain⟨t',rfl⟩:=ry;exact rule i j t t' s _ _ ⟨.bl (g i j),H,I,rfl,q⟩
def CMul(i j:Int):Prop:=(-(2^64)<i∧i<2^64)∨(-(2^64)<j∧j<2^64)
theorem CMul.ok{i j:Int}(h:CMul i j):IntMulOk i j:=by
 rcases h with⟨h1,h2⟩ | ⟨h1,h2⟩
 · exact .of_left (intBits_le_64 h1 h2)
 · exact .of_right (intBits_le_64 h1 h2)
theorem Jq:HQ X (binaryOp .Add) (K2 λi j=> .int (i+j)):=ML λ_ _ _ _ _ _ _ q=>add_int q
theorem JU:HQ X (binaryOp .Sub) (K2 λi j=> .int (i - j)):=ML λ_ _ _ _ _ _ _ q=>sub_int q
theorem LK:HQ X (binaryOp .Mult) (rI CMul λi j=> .int (i*j)):=Oc λ_ _ _ _ _ _ _ hc q=>mul_int q hc.ok
theorem Lg:HQ X (binaryOp .Mod) (rI (λ_ j=>0<j) λi j=> .int (i%j)):=Oc λi j _ _ _ _ _ hc q=>by have h1:(0:Int)<j:=hc;exact mod_int' (by omega) (by rw[Int.fmod_eq_emod_of_nonneg i (by omega)];exact q)
theorem ZM{f:Value→Sem Value}{g:Int→Int}
 (rule:∀(i:Int)(t:Tok)(s:Shared)(Q:Value→Shared→Prop)(E:Value→Shared→Prop),Q (.int (g i) s.toks) {s with toks:=s.toks+1}→wpAny (model X.prog X.w) X.A (f (.int i t)) Q E s):
 Q3 X f (rU λi=> .int (g i)):=by
 intro pins s σ H x v Q I rx h;obtain⟨i,rfl,q⟩:=h;obtain⟨t,rfl⟩:=rx;exact rule i t s _ _ ⟨.int (g i),H,I.tok _,⟨_,rfl⟩,q⟩
theorem Rm:Q3 X (unaryOp .USub) (rU λi=> .int (-i)):=ZM λ_ _ _ _ _ q=>neg_int q
end
def MD:V→V→Bool
 | .non,.non=>true | .non,.int _=>true | .int _,.non=>true | .non,.bl _=>true | .bl _,.non=>true | .non,.str _=>true | .str _,.non=>true
 | .int _,.int _=>true | .bl _,.bl _=>true | .str _,.str _=>true | .byt _,.byt _=>true
 | .int _,.str _=>true | .str _,.int _=>true | .bl _,.str _=>true | .str _,.bl _=>true
 | _,_=>false
def ZT:R2:=λx y H Q=>MD x y=true∧Q (.bl (decide (x=y))) H
def ZS:R2:=λx y H Q=>MD x y=true∧Q (.bl (!decide (x=y))) H
theorem RD{i j:Int}:decide (V.int i=V.int j)=(i==j):=by rw[DQ];simp
theorem QT{i j:Bool}:decide (V.bl i=V.bl j)=(i==j):=by rw[DQ];simp
theorem RE{i j:Str}:decide (V.str i=V.str j)=(i==j):=by rw[DQ];simp
theorem RC{i j:Array UInt8}:decide (V.byt i=V.byt j)=(i.toList==j.toList):=by rw[DQ];cases i;cases j;simp
section
variable{X:Cx}{a b c:Expr}{ta tb tc:TE}
theorem HS{σ:St}{H:Hp}{Q:VK}{k k':Bool}(I:Inv X pins σ H s)(q:Q (.bl k) H)(e:k=k'):EP X pins σ Q (.bool k') s:=by subst e;exact⟨.bl k,H,I,rfl,q⟩
theorem HL:HQ X (Bj .Eq) ZT:=by
 intro pins s σ H x y v u Q I rx ry h;obtain⟨hs,q⟩:=h;cases x with
 | non=>
  cases rx;cases y with
  | non=>cases ry;exact PySem.EqNone.eq_none_none (HS I q (by simp))
  | bl j=>cases ry;exact PySem.EqNone.eq_none_bool (HS I q (by simp))
  | int j=>obtain⟨t',rfl⟩:=ry;exact PySem.EqNone.eq_none_int (HS I q (by simp))
  | str j=>obtain⟨t',rfl⟩:=ry;exact PySem.EqNone.eq_none_str (HS I q (by simp))
  | _=>exact absurd (show false=true from hs) Aw
 | bl i=>
  cases rx;cases y with
  | non=>cases ry;exact PySem.EqNone.eq_bool_none (HS I q (by simp))
  | bl j=>cases ry;exact eq_bool (HS I q QT)
  | str j=>obtain⟨t',rfl⟩:=ry;exact PySem.EqMixed.eq_bool_str (HS I q (by simp))
  | _=>exact absurd (show false=true from hs) Aw
 | int i=>
  obtain⟨t,rfl⟩:=rx;cases y with
  | non=>cases ry;exact PySem.EqNone.eq_int_none (HS I q (by simp))
  | int j=>obtain⟨t',rfl⟩:=ry;exact eq_int (HS I q RD)
  | str j=>obtain⟨t',rfl⟩:=ry;exact PySem.EqMixed.eq_int_str (HS I q (by simp))
  | _=>exact absurd (show false=true from hs) Aw
 | str i=>
  obtain⟨t,rfl⟩:=rx;cases y with
  | non=>cases ry;exact PySem.EqNone.eq_str_none (HS I q (by simp))
  | bl j=>cases ry;exact PySem.EqMixed.eq_str_bool (HS I q (by simp))
  | int j=>obtain⟨t',rfl⟩:=ry;exact PySem.EqMixed.eq_str_int (HS I q (by simp))
  | str j=>obtain⟨t',rfl⟩:=ry;exact eq_str (HS I q RE)
  | _=>exact absurd (show false=true from hs) Aw
 | byt i=>
  obtain⟨t,rfl⟩:=rx;cases y with
  | byt j=>obtain⟨t',rfl⟩:=ry;exact PySem.W.eq_bytes (HS I q RC)
  | _=>exact absurd (show false=true from hs) Aw
 | _=>cases y<;>exact absurd (show false=true from hs) Aw
theorem JH:HQ X (Bj .NotEq) ZS:=by
 intro pins s σ H x y v u Q I rx ry h;obtain⟨hs,q⟩:=h;cases x with
 | non=>
  cases rx;cases y with
  | non=>cases ry;exact PySem.EqNone.ne_none_none (HS I q (by simp))
  | bl j=>cases ry;exact PySem.EqNone.ne_none_bool (HS I q (by simp))
  | int j=>obtain⟨t',rfl⟩:=ry;exact PySem.EqNone.ne_none_int (HS I q (by simp))
  | str j=>obtain⟨t',rfl⟩:=ry;exact PySem.EqNone.ne_none_str (HS I q (by simp))
  | _=>exact absurd (show false=true from hs) Aw
 | bl i=>
  cases rx;cases y with
  | non=>cases ry;exact PySem.EqNone.ne_bool_none (HS I q (by simp))
  | bl j=>cases ry;exact ne_bool (HS I q (congrArg not QT))
  | str j=>obtain⟨t',rfl⟩:=ry;exact PySem.EqMixed.ne_bool_str (HS I q (by simp))
  | _=>exact absurd (show false=true from hs) Aw
 | int i=>
  obtain⟨t,rfl⟩:=rx;cases y with
  | non=>cases ry;exact PySem.EqNone.ne_int_none (HS I q (by simp))
  | int j=>obtain⟨t',rfl⟩:=ry;exact ne_int (HS I q (congrArg not RD))
  | str j=>obtain⟨t',rfl⟩:=ry;exact PySem.EqMixed.ne_int_str (HS I q (by simp))
  | _=>exact absurd (show false=true from hs) Aw
 | str i=>
  obtain⟨t,rfl⟩:=rx;cases y with
  | non=>cases ry;exact PySem.EqNone.ne_str_none (HS I q (by simp))
  | bl j=>cases ry;exact PySem.EqMixed.ne_str_bool (HS I q (by simp))
  | int j=>obtain⟨t',rfl⟩:=ry;exact PySem.EqMixed.ne_str_int (HS I q (by simp))
  | str j=>obtain⟨t',rfl⟩:=ry;exact ne_str (HS I q (congrArg not RE))
  | _=>exact absurd (show false=true from hs) Aw
 | byt i=>
  obtain⟨t,rfl⟩:=rx;cases y with
  | byt j=>obtain⟨t',rfl⟩:=ry;exact PySem.W.ne_bytes (HS I q (congrArg not RC))
  | _=>exact absurd (show false=true from hs) Aw
 | _=>cases y<;>exact absurd (show false=true from hs) Aw
theorem Ld:HQ X (Bj .Lt) (K2 λi j=> .bl (decide (i<j))):=K3 λ_ _ _ _ _ _ _ q=>lt_int q
theorem LH:HQ X (Bj .LtE) (K2 λi j=> .bl (decide (i≤j))):=K3 λ_ _ _ _ _ _ _ q=>le_int q
theorem Mf:HQ X (Bj .Gt) (K2 λi j=> .bl (decide (j<i))):=K3 λ_ _ _ _ _ _ _ q=>gt_int q
theorem UV:HQ X (Bj .GtE) (K2 λi j=> .bl (decide (j≤i))):=K3 λ_ _ _ _ _ _ _ q=>ge_int q
theorem Th:HQ X (Bj .Lt) (λx y H Q=>∃i j,x= .str i∧y= .str j∧Q (.bl (decide (i.cps.toList<j.cps.toList))) H):=by intro pins s σ H x y v u Q I rx ry h;obtain⟨i,j,rfl,rfl,q⟩:=h;obtain⟨t,rfl⟩:=rx;obtain⟨t',rfl⟩:=ry;exact lt_str (HS I q rfl)
theorem Xx:HQ X (Bj .In) (λx y H Q=>∃i j,x= .str i∧y= .str j∧Q (.bl (!(D0 j i 0 j.length 1).isEmpty)) H):=by intro pins s σ H x y v u Q I rx ry h;obtain⟨i,j,rfl,rfl,q⟩:=h;obtain⟨t,rfl⟩:=rx;obtain⟨t',rfl⟩:=ry;exact in_str (HS I q rfl)
theorem Hh(b:Expr){op:CmpOp}(h:op≠ .In:=by decide)(h2:op≠ .NotIn:=by decide):behindInMarks op b=false:=by
 have e1:(op==CmpOp.In)=false:=by cases op<;>first | rfl | exact absurd rfl h
 have e2:(op==CmpOp.NotIn)=false:=by cases op<;>first | rfl | exact absurd rfl h2
 cases b<;>simp[behindInMarks,e1,e2]
theorem J4{op:CmpOp}{r:R2}(ho:HQ X (Bj op) r)(ha:PE X a ta)(hb:PE X b tb)(hm:behindInMarks op b=false):PE X (.Compare a [op] [b] pos) (Lr r ta tb):=by intro pins s σ H Q I h;exact wpAny_Compare1 (Ly ha hb I h λv u s2 x y H2 I2 rx ry q=>ho pins s2 σ H2 x y v u Q I2 rx ry q) hm
def Os(t:TE):TT:=λσ H Q=>t σ H λx H'=>∃k,x= .bl k∧Q k H'
theorem Ho{op:CmpOp}{r:R2}(ho:HQ X (Bj op) r)(ha:PE X a ta)(hb:PE X b tb)(hm:behindInMarks op b=false):PT X (.Compare a [op] [b] pos) (Os (Lr r ta tb)):=by intro pins s σ H Q I h;refine wpAny_isTrue_Compare1 (He (ha pins s σ H _ I h) λv s1 ⟨x,H1,I1,r1,q1⟩=>He (hb pins s1 σ H1 _ I1 q1) λu s2 ⟨y,H2,I2,r2,q2⟩=> He (ho pins s2 σ H2 x y v u _ I2 r1 r2 q2) λc s3 ⟨z,H3,I3,r3,k,e,q3⟩=>?_) hm;subst e;cases r3;exact Bo ⟨H3,I3,q3⟩
def Rj(r r':R2)(ta tb tc:TE):TE:=λσ H Q=>ta σ H λx H1=>tb σ H1 λy H2=>r x y H2 λz H3=>∃k,z= .bl k∧
 (if k=true then tc σ H3 λw' H4=>r' y w' H4 Q else Q (.bl false) H3)
theorem OT{op op':CmpOp}{r r':R2}(ho:HQ X (Bj op) r)(ho':HQ X (Bj op') r')(ha:PE X a ta)(hb:PE X b tb)(hc:PE X c tc)
 (hm:lastMarks [op,op'] [b,c]=false:=by with_unfolding_all rfl):PE X (.Compare a [op,op'] [b,c] pos) (Rj r r' ta tb tc):=by
 intro pins s σ H Q I h;refine Compare_chain (He (ha pins s σ H _ I h) λv s1 ⟨x,H1,I1,r1,q1⟩=>chain_link (He (hb pins s1 σ H1 _ I1 q1) λu s2 ⟨y,H2,I2,r2,q2⟩=> He (ho pins s2 σ H2 x y v u _ I2 r1 r2 q2) λd s3 ⟨z,H3,I3,r3,k,e,q3⟩=>?_)) hm;subst e;cases r3;refine Bo ?_;cases k with
 | false=>exact ite_ff ⟨.bl false,H3,I3,rfl,q3⟩
 | true=>exact ite_tt (chain_last (He (hc pins s3 σ H3 _ I3 q3) λw' s4 ⟨z',H4,I4,r4,q4⟩=>ho' pins s4 σ H4 y z' u w' Q I4 r2 r4 q4))
theorem WR{op op':CmpOp}{r r':R2}(ho:HQ X (Bj op) r)(ho':HQ X (Bj op') r')(ha:PE X a ta)(hb:PE X b tb)(hc:PE X c tc)
 (hm:lastMarks [op,op'] [b,c]=false:=by with_unfolding_all rfl):PT X (.Compare a [op,op'] [b,c] pos) (Os (Rj r r' ta tb tc)):=by
 intro pins s σ H Q I h;refine isTrue_chain (He (ha pins s σ H _ I h) λv s1 ⟨x,H1,I1,r1,q1⟩=>test_link (He (hb pins s1 σ H1 _ I1 q1) λu s2 ⟨y,H2,I2,r2,q2⟩=> He (ho pins s2 σ H2 x y v u _ I2 r1 r2 q2) λd s3 ⟨z,H3,I3,r3,k,e,q3⟩=>?_)) hm;subst e;cases r3;refine Bo ?_;cases k with
 | false=> obtain⟨k',e',q'⟩:=q3;cases e';exact ite_ff ⟨H3,I3,q'⟩
 | true=> refine ite_tt (test_last (He (hc pins s3 σ H3 _ I3 q3) λw' s4 ⟨z',H4,I4,r4,q4⟩=>He (ho' pins s4 σ H4 y z' u w' _ I4 r2 r4 q4) λd' s5 ⟨z2,H5,I5,r5,k2,e2,q5⟩=>?_));subst e2;cases r5;exact Bo ⟨H5,I5,q5⟩
theorem LJ:(Ag:Nat)<2^63:=by rw[sizeLine_eq];decide
theorem IW:HQ X (binaryOp .Add) (λx y H Q=>∃i j,x= .str i∧y= .str j∧i.length+j.length≤Ag∧Q (.str (i++j)) H):=by intro pins s σ H x y v u Q I rx ry h;obtain⟨i,j,rfl,rfl,hz,q⟩:=h;obtain⟨t,rfl⟩:=rx;obtain⟨t',rfl⟩:=ry;exact add_str (λt' tk=>⟨.str (i++j),H,I.tok _,⟨_,rfl⟩,q⟩) hz
theorem J3{x:V}(r:Vals [x] us):∃u,us=[u]∧RelV x u:=by
 cases r with
 | cons r1 r2=>cases r2;exact⟨_,rfl,r1⟩
theorem Kl{x y:V}(r:Vals [x,y] us):∃u w',us=[u,w']∧RelV x u∧RelV y w':=by
 cases r with
 | cons r1 r2=>
  cases r2 with
  | cons r3 r4=>cases r4;exact⟨_,_,rfl,r1,r3⟩
theorem Tc(hc:X.calm=true):IZ X (.builtin "max") (λxs H Q=>∃i j,xs=[.int i,.int j]∧Q (.int (if j>i then j else i)) H):=by
 intro pins s σ H xs us Q I r h;obtain⟨i,j,rfl,q⟩:=h;obtain⟨u,w',rfl,⟨t,rfl⟩,⟨t',rfl⟩⟩:=Kl r;refine max_two_ints (I.ok.hd hc) λh' tk k=>⟨_,H,I.kept k,?_,q⟩;by_cases hj:j>i
 · rw[if_pos hj,if_pos hj];exact⟨_,rfl⟩
 · rw[if_neg hj,if_neg hj];exact⟨_,rfl⟩
theorem Td(hc:X.calm=true):IZ X (.builtin "min") (λxs H Q=>∃i j,xs=[.int i,.int j]∧Q (.int (if j<i then j else i)) H):=by
 intro pins s σ H xs us Q I r h;obtain⟨i,j,rfl,q⟩:=h;obtain⟨u,w',rfl,⟨t,rfl⟩,⟨t',rfl⟩⟩:=Kl r;refine min_two_ints (I.ok.hd hc) λh' tk k=>⟨_,H,I.kept k,?_,q⟩;by_cases hj:j<i
 · rw[if_pos hj,if_pos hj];exact⟨_,rfl⟩
 · rw[if_neg hj,if_neg hj];exact⟨_,rfl⟩
theorem OU:IZ X (.type "int") (λxs H Q=>(∃i,xs=[.int i]∧Q (.int i) H)∨∃k,xs=[.bl k]∧Q (.int (if k then 1 else 0)) H):=by
 intro pins s σ H xs us Q I r h;rcases h with⟨i,rfl,q⟩ | ⟨k,rfl,q⟩
 · obtain⟨u,rfl,t,rfl⟩:=J3 r;exact call_int_int ⟨.int i,H,I,⟨_,rfl⟩,q⟩
 · obtain⟨u,rfl,r1⟩:=J3 r;cases r1;exact call_int_bool ⟨.int (if k then 1 else 0),H,I.tok _,⟨_,rfl⟩,q⟩
end
structure ObjM(h:Heap)(x dx C:Addr)(mA:Str→Option Value):Prop where
 obj:h.get? x=some (EX C dx)
 ns:h.Ns1 dx mA
 ne:dx≠x
theorem Xo{dx:Addr}{mA:Str→Option Value}(n:h.Ns1 dx mA):∃od,h.get? dx=some od∧∀name,Fo name od=some (mA name):=by
 obtain⟨o,es,ep,ho,hd,hk,_,hm⟩:=n;refine⟨o,ho,λname=>?_⟩;have e:=hm name;unfold nsFind findBy at e;rw[←Array.find?_toList] at e;unfold Fo;rw[hd];dsimp only
 split
 · rename_i y q;rw[q] at e;exact congrArg some e
 · rename_i q;rw[q] at e;have a:es.toList.any (·.refKey)=false:=by
    rw[List.any_eq_false];intro y hy;obtain⟨z,t,hkey⟩:=hk y (Array.mem_toList_iff.mp hy);simp[DictEntry.refKey,hkey]
   have a':¬es.toList.any (·.refKey)=true:=by rw[a];exact Aw
   rw[if_neg a'];exact congrArg some e
theorem ObjM.look{x dx C:Addr}{mA:Str→Option Value}(I:ObjM h x dx C mA):∃od,PySem.W.InstAt h x (EX C dx) C (some od)∧∀name,Fo name od=some (mA name):=
 let⟨od,ho,hl⟩:=Xo I.ns
 ⟨od,⟨I.obj,rfl,rfl,ho⟩,hl⟩
section
variable{x dx C f:Addr}{mA:Str→Option Value}{name:Str}{v:Value}
end
section
variable{H H':Hp}{h':Heap}{C dx:Addr}{fs fs':List (Str×V)}
theorem W9(hok:HOk P w H h)(e:H a=some (.ins C dx fs)):∃mA,ObjM h a dx C mA∧(∀f,L7 (fs.lookup f) (mA f))∧PySem.Within mA (fs.map (·.1))∧fs.length≤1000∧H dx=some (.own a):=by obtain⟨d,z,ne,ob,mA,n,r,q⟩:=(show ObjOk P w H h a (.ins C dx fs) from hok a _ e);exact⟨mA,⟨ob,n,ne⟩,r,q,z,d⟩
end
structure Cls(K:Af)(C:Addr):Prop where
 pg:PySem.W.plainGet K C DK=true
 hd:PySem.W.hasDictIn K C=true
 po:PySem.W.plainOver K C=true
 sa:BV K (.ref C) "__setattr__"=some (some (.builtin "object.__setattr__"))
theorem Cls.get{C:Addr}(c:Cls K C)(f:Str):PySem.W.plainGet K C f=true:=c.pg
section
variable{X:Cx}{σ:St}{H:Hp}{C dx:Addr}{fs:List (Str×V)}{f:Str}{v:V}
end
section
variable{X:Cx}{o value:Expr}{f:Str}{pos' tpos:Pos}{ta tv:TE}
end
section
variable{X:Cx}{σ:St}{H:Hp}{Q:Value→Shared→Prop}{c:Value}{b:Bool}
inductive TyOf(K:Af)(H:Hp):V→Value→Prop where
 | non:TyOf K H .non (.type "NoneType")
 | bl (x:Bool):TyOf K H (.bl x) (.type "bool")
 | int (i:Int):TyOf K H (.int i) (.type "int")
 | str (x:Str):TyOf K H (.str x) (.type "str")
 | flt (x:UInt64):TyOf K H (.flt x) (.type "float")
 | lst {a:Addr} {xs:List V} (e:H a=some (.lst xs)):TyOf K H (.ref a) (.type "list")
 | frz {a:Addr} {o:Obj} {xs:List V} (e:H a=some (.frz o (.lst xs))):TyOf K H (.ref a) (.type "list")
 | tup {a:Addr} {xs:List V} (e:H a=some (.tup xs)):TyOf K H (.ref a) (.type "tuple")
 | dK {a:Addr} {kvs:List (HP×V)} (e:H a=some (.dK kvs)):TyOf K H (.ref a) (.type "dict")
 | dT {a:Addr} {kvs:List (List HP×V)} (e:H a=some (.dT kvs)):TyOf K H (.ref a) (.type "dict")
 | ins {a C dx:Addr} {fs:List (Str×V)} (e:H a=some (.ins C dx fs)) (cl:Cls K C) (ha:BV K (.ref C) "__class__"=some (some (.builtin "object.__class__")))
  (hn:PySem.W.specialIn K (.builtin "object.__class__") "__get__"=some (some (.builtin "getset_descriptor.__get__"))) (htk:PySem.W.takesIn K (.builtin "object.__class__")=some true)
  (hm:An K C (.type "object")=some true):TyOf K H (.ref a) (.ref C)
theorem X7{x:V}{t:Value}(I:Inv X pins σ H s)(rx:RelV x u)(ty:TyOf X.K H x t)(e:A0 X.K t c=some b)(h:∀tk,Q (.bool b) {s with toks:=tk}):
 wpAny (model X.prog X.w) A (call (.builtin "isinstance") [u,c]) Q E s:=by
 cases ty with
 | non=>cases(show u=Value.none from rx);exact Bu PySem.W.kitx_none I.kIn True.intro e (λz=>nomatch z) h
 | bl y=>cases(show u=Value.bool y from rx);exact Bu PySem.W.kitx_bool I.kIn True.intro e (λz=>nomatch z) h
 | int i=>obtain⟨t,q⟩:=(show ∃t,u=Value.int i t from rx);cases q;exact Bu PySem.W.kitx_int I.kIn True.intro e (λz=>nomatch z) h
 | str y=>obtain⟨t,q⟩:=(show ∃t,u=Value.str y t from rx);cases q;exact Bu PySem.W.kitx_str I.kIn True.intro e (λz=>nomatch z) h
 | flt y=>obtain⟨t,q⟩:=(show ∃t,u=Value.float y t from rx);cases q;exact Bu PySem.W.kitx_float I.kIn True.intro e (λz=>nomatch z) h
 | @lst a xs ea=> cases(show u=Value.ref a from rx);obtain⟨_,_,n,_,h1⟩:=(show ObjOk X.prog X.w H s.heap a (.lst xs) from I.hok a _ ea);exact Bu D4 I.kIn ⟨_,h1,rfl⟩ e (λz=>nomatch z) h
 | @frz a ob xs ea=> cases(show u=Value.ref a from rx);obtain⟨_,_,_,n,_,h1⟩:=(show ObjOk X.prog X.w H s.heap a (.frz ob (.lst xs)) from I.hok a _ ea);exact Bu D4 I.kIn ⟨_,h1,rfl⟩ e (λz=>nomatch z) h
 | @tup a xs ea=> cases(show u=Value.ref a from rx);obtain⟨_,_,_,p⟩:=(show ObjOk X.prog X.w H s.heap a (.tup xs) from I.hok a _ ea);obtain⟨o,h1,h2,_⟩:=p;exact Bu PySem.W.kitx_tuple I.kIn ⟨o,h1,h2⟩ e (λz=>nomatch z) h
 | @dK a kvs ea=> cases(show u=Value.ref a from rx);obtain⟨_,_,vs,_,p⟩:=(show ObjOk X.prog X.w H s.heap a (.dK kvs) from I.hok a _ ea);obtain⟨o,es,ep,h1,h2,_⟩:=p;exact Bu D5 I.kIn ⟨o,h1,h2.1⟩ e (λz=>nomatch z) h
 | @dT a kvs ea=> cases(show u=Value.ref a from rx);obtain⟨_,_,xs,_,o,es,ep,h1,h2,_⟩:=(show ObjOk X.prog X.w H s.heap a (.dT kvs) from I.hok a _ ea);exact Bu D5 I.kIn ⟨o,h1,h2.1⟩ e (λz=>nomatch z) h
 | @ins a C dx fs ea cl ha hn htk hm=> cases(show u=Value.ref a from rx);obtain⟨mA,O,_⟩:=W9 I.hok ea;obtain⟨od,J,_⟩:=O.look;exact Bu (PySem.W.kitx_own (cl.get _) cl.hd ha hn htk hm) I.kIn J e (λz=>nomatch z) h
end
structure Room(k:Nat)(A:Bq):Prop where
 hd:A.handled=none
 dp:A.depth+3*k+5<recursionLimit
 un:A.units+16*k+200<cLine
 gd:A.guards=some []
theorem Room.mono{j:Nat}(r:Room k A)(h:j≤k):Room j A:=⟨r.hd,by have:=r.dp;omega,by have:=r.un;omega,r.gd⟩
theorem Room.deeper(r:Room (k+1) A)(env:Env):Room k (A.deeper env):=
 ⟨r.hd,by have:=r.dp;show A.depth+1+3*k+5<_;omega,by have:=r.un;show A.units+3+16*k+200<_;omega,r.gd⟩
theorem XQ{C:Addr}{kw:List (Str×Value)}:(A.under (.builtin "type.__call__" ⟨.ref C::us,kw⟩)).depth=A.depth+1:=by first | rfl | simp[EF,Code.weight,Code.isCreation,Code.isGuard,Code.isCaller,Code.frames,Code.isFrame,guardIds]
theorem XR{C:Addr}{kw:List (Str×Value)}:(A.under (.builtin "type.__call__" ⟨.ref C::us,kw⟩)).units=A.units+1:=by first | rfl | simp[EF,Code.cUnits,Code.frames,Code.isFrame]
theorem Za{C:Addr}{kw:List (Str×Value)}:(A.under (.builtin "type.__call__" ⟨.ref C::us,kw⟩)).guards=A.guards:=by first | rfl | simp[EF,Code.isGuard,guardIds]
theorem Room.make(r:Room (k+1) A)(C:Addr)(us:List Value)(kw:List (Str×Value)):Room k (A.under (.builtin "type.__call__" ⟨.ref C::us,kw⟩)):=
 ⟨r.hd,by have:=r.dp;rw[XQ];omega,by have:=r.un;rw[XR];omega,by rw[Za];exact r.gd⟩
theorem Room.depth(r:Room k A):A.depth<recursionLimit:=by have:=r.dp;omega
theorem Room.units(r:Room k A):A.units+64<cLine:=by have:=r.un;omega
def Im:TA:=λ_ H Q=>Q [] H
def Jw(ta:TE)(tr:TA):TA:=λσ H Q=>ta σ H λx H1=>tr σ H1 λxs H2=>Q (x::xs) H2
section
variable{X:Cx}{es:List Expr}{te:TE}{t:TA}
theorem GV:PA X [] Im:=λ_ _ _ _ H Q I h=>Calls.spliced_nil ⟨[],H,I,.nil,h⟩
theorem GU(ha:PE X e te)(hr:PA X es t)(hs:A1 (e::es) X.env=(false,eval e X.env)::A1 es X.env:=by rfl):PA X (e::es) (Jw te t):=by intro pos pins s σ H Q I h;rw[hs];show wpAny _ _ (spliced ((false,eval e X.env)::backTo pos (A1 es X.env))) _ _ s;refine Calls.spliced_cons (He (ha pins s σ H _ I h) λu s1 ⟨x,H1,I1,r1,q1⟩=>?_);exact He (hr pos pins s1 σ H1 _ I1 q1) λus s2 ⟨xs,H2,I2,r2,q2⟩=>⟨x::xs,H2,I2,.cons r1 r2,q2⟩
def Lq(t:TA):TE:=λσ H Q=>t σ H λxs H1=>xs.length≤Ag∧∀p,H1 p=none→Q (.ref p) (GZ H1 p (.tup xs))
def J1(t:TA):TE:=λσ H Q=>t σ H λxs H1=>xs.length≤Ag∧∀p,H1 p=none→Q (.ref p) (GZ H1 p (.lst xs))
theorem IU{x1}(h:PA X es t):PE X (.Tuple es x1 pos) (Lq t):=by intro pins s σ H Q I hq;refine wpAny_Tuple_spliced (He (h pos pins s σ H _ I hq) λus s1 ⟨xs,H1,I1,r,z,q⟩=>⟨by rw[←r.length];exact z,?_⟩);have hf:H1 s1.heap.objs.size=none:=I1.hok.fresh (Ae _);refine⟨.ref s1.heap.objs.size,GZ H1 s1.heap.objs.size (.tup xs),I1.laid (t':=s1.toks) (λb u e=>Ad _ e) (Ae _) ?_,rfl,q _ hf⟩;exact⟨z,us,r,⟨_,Aq _ rfl,rfl,rfl,_,rfl⟩⟩
theorem IC(h:PA X es t):PE X (.List es pos) (J1 t):=by intro pins s σ H Q I hq;refine wpAny_List_spliced (He (h pos pins s σ H _ I hq) λus s1 ⟨xs,H1,I1,r,z,q⟩=>⟨by rw[←r.length];exact z,?_⟩);have hf:H1 s1.heap.objs.size=none:=I1.hok.fresh (Ae _);refine⟨.ref s1.heap.objs.size,GZ H1 s1.heap.objs.size (.lst xs),I1.laid (t':=s1.toks) (λb u e=>Ad _ e) (Ae _) ?_,rfl,q _ hf⟩;exact⟨z,us,0,r,Aq _ rfl⟩
end
abbrev Sp:=List V→Hp→VK→XK→Prop
abbrev JR:=List Env→Hp→Shared→XK→Value→Shared→Prop
structure Env0(P:Bk)(w:World)(K:Af)(mg:Str→Option Value)(base:Heap)(A:Bq)(outer:List Env)(s:Shared)(H:Hp):Prop where
 frames:A.frames=some outer
 mod:Mod K mg base
 bs:∀b o,base.get? b=some o→s.heap.get? b=some o∧H b=none
 bsz:base.objs.size≤s.heap.objs.size
 funs:s.heap.FunFrames base outer
 frf:∀b∈HN outer,H b=none
 hok:HOk P w H s.heap
 bare:AllBare s.gens
def CE(outer:List Env)(P:Bk)(w:World)(H:Hp)(s:Shared)(Q:VK)(u:Value)(s':Shared):Prop:=
 ∃v H',s'.os=s.os∧AllBare s'.gens∧Un (HN outer) [] H H' s.heap s'.heap∧HOk P w H' s'.heap∧RelV v u∧Q v H'
def CR(CX:JR)(outer:List Env)(P:Bk)(w:World)(H:Hp)(s:Shared)(Q:VK)(E:XK)(r:Result)(s':Shared):Prop:=
 match r with
 | .ok (.ret u)=>CE outer P w H s Q u s'
 | .ok _=>False
 | .error e=>CX outer H s E e s'
structure FnOk(P:Bk)(w:World)(K:Af)(mg:Str→Option Value)(base:Heap)(CX:JR)(k:Nat)(f:Addr)(fd:Bf)(ps:List Str)(sp:Sp):Prop where
 len:∀vs H Q E,sp vs H Q E→vs.length=ps.length
 run:∀(A:Bq)(outer:List Env)(s:Shared)(H:Hp)(args:Args)(us:List Value)(vs:List V)(Q:VK)(E:XK),Room k A→Env0 P w K mg base A outer s H→BindsTo s fd args (ps.zip us)→Vals vs us→sp vs H Q E→
  codeAny (model P w) A (.call (.ref f) args) (CR CX outer P w H s Q E) s
theorem Env0.make{mg:Str→Option Value}{base:Heap}{outer:List Env}{H:Hp}(e:Env0 P w K mg base A outer s H)(C:Addr)(us:List Value)(kw:List (Str×Value)):
 Env0 P w K mg base (A.under (.builtin "type.__call__" ⟨.ref C::us,kw⟩)) outer s H:=⟨by first | exact e.frames | (simpa [EF,Code.envs,Code.isFrame,pushEnvs] using e.frames),e.mod,e.bs,e.bsz,e.funs,e.frf,e.hok,e.bare⟩
section
variable{X:Cx}{σ:St}{H:Hp}{s':Shared}
theorem Inv.env0(I:Inv X pins σ H s):Env0 X.prog X.w X.K X.mg X.base X.A X.stack s H:=
 ⟨I.ok.frames,I.ok.mod,I.bs,A8 I.ok.bsz I.sz,I.stack,I.stkFree,I.hok,I.bare⟩
theorem Inv.after{Q:VK}(I:Inv X pins σ H s)(h:CE X.stack X.prog X.w H s Q u s'):EP X pins σ Q u s':=by obtain⟨v,H',os,bare,un,hok,r,q⟩:=h;obtain⟨hh,g,d,t,os'⟩:=s';obtain rfl:os'=s.os:=os;exact⟨v,H',I.call (h':=hh) (g':=g) (d':=d) (t':=t) (ch:=[]) un hok bare (λb z=>absurd z (by simp)),r,q⟩
end
def Nf(sp:Sp)(dvs:List V)(E:XK)(t:TA):TE:=λσ H Q=>t σ H λvs H1=>sp (vs++dvs) H1 Q E
def Binds(K:Af)(fd:Bf)(ps:List Str)(ds:List Value):Prop:=
 ∀(s:Shared)(us:List Value),K.In s.heap→(us++ds).length=ps.length→BindsTo s fd ⟨us,[]⟩ (ps.zip (us++ds))
theorem Binds.all{fd:Bf}{ps:List Str}(h:∀us:List Value,us.length=ps.length→bindArgs fd ⟨us,[]⟩=pure (ps.zip us)):Binds K fd ps []:=λs us _ hl=>by rw[DR] at hl ⊢;exact .of_eq (h us hl)
def Nm(CX:JR)(X:Cx)(E:XK):Prop:=∀(pins:List (Addr×Obj))(σ:St)(H:Hp)(s:Shared)(e:Value)(s':Shared),Inv X pins σ H s→CX X.stack H s E e s'→X.xe e s'
section
variable{X:Cx}{CX:JR}{f C:Addr}{fd:Bf}{ps:List Str}{sp:Sp}{dvs:List V}{ds:List Value}{E:XK}{x m:Str}{p apos:Pos}{o:Expr}{es:List Expr}{ta:TE}{t:TA}
theorem VI{pins:List (Addr×Obj)}{σ:St}{H:Hp}{s:Shared}{Q:VK}{us:List Value}{vs:List V}(F:FnOk X.prog X.w X.K X.mg X.base CX k f fd ps sp)(hr:Room k X.A)(hb:Binds X.K fd ps ds)(hd:Vals dvs ds)(hx:Nm CX X E)
 (I:Inv X pins σ H s) (r:Vals vs us) (h:sp (vs++dvs) H Q E):wpAny (model X.prog X.w) X.A (call (.ref f) us) (EP X pins σ Q) X.xe s:=by
 have r2:Vals (vs++dvs) (us++ds):=r.append hd;have hl:(us++ds).length=ps.length:=by rw[←r2.length];exact F.len _ _ _ _ h
 refine Df (Ch (F.run X.A X.stack s H ⟨us,[]⟩ (us++ds) (vs++dvs) Q E hr I.env0 (hb s us I.kIn hl) r2 h) λr s' hq=>?_);cases r with
 | error e=>exact hx pins σ H s e s' I hq
 | ok fl=>
  cases fl with
  | ret u=>exact I.after hq
  | next=>exact B_ hq
  | brk=>exact B_ hq
  | cont=>exact B_ hq
theorem Se(F:FnOk X.prog X.w X.K X.mg X.base CX k f fd ps sp)(hr:Room k X.A)(hg:Gl X x)(hm:X.mg x=some (.ref f))(hk:Cp X.K (.ref f)=true)(hb:Binds X.K fd ps ds)(hd:Vals dvs ds)(hx:Nm CX X E)
 (ha:PA X (e::es) t) (hdb:(x==("__debug__":Str))=false:=by decide) (he:A1 (e::es) X.env=(false,eval e X.env)::A1 es X.env:=by rfl) (hpl:(backTo pos (A1 es X.env)).any (·.1)=false:=by rfl):
 PE X (.Call (.Name x p) (e::es) [] pos) (Nf sp dvs E t):=by
 intro pins s σ H Q I h;refine BP (Mq I hg hm ?_ hdb);refine Ep (h₀:=X.base) I.ok.mod.kin hk (He (ha pos pins s σ H _ I h) λus s1 ⟨vs,H1,I1,r,q⟩=>⟨I1.kIn,?_⟩) he hpl;exact VI F hr hb hd hx I1 r q
end
section
variable{X:Cx}{CX:JR}{f C:Addr}{fd:Bf}{ps ks:List Str}{sp:Sp}{E:XK}{x m:Str}{p apos kpos:Pos}{o:Expr}{es:List Expr}{kws:List Keyword}{te ta:TE}{t tk:TA}{nm:Option Str}
variable{g:List Value→List Value→List Value}{gV:List V→List V→List V}
end
structure FnScope(N P:List Str)(sc:Scope):Prop where
 kind:sc.kind= .function
 co:sc.isCoroutine=false
 gen:sc.isGenerator=false
 nd:N.Nodup
 pre:N.take P.length=P
 par:∀x∈P,sc.names.lookup x=some .local∨sc.names.lookup x=some .cell
 nofree:∀y∈sc.names,y.2≠ .free
theorem S_{kindOf:Str→Option NameKind}{x:Str}:∀{binds:List (Str×Value)}{m:Str→Option Value},(∀v,(x,v) ∉ binds)→bindL kindOf binds m x=m x
 | [],_,_=>rfl
 | (n,v)::r,m,h=>by
  unfold bindL;rw[S_ λw hw=>h w (Az _ hw)]
  split
  · have:x≠n:=by rintro rfl;exact h v AD
    simp[this]
  · rfl
theorem SY{kindOf:Str→Option NameKind}{x:Str}:∀{binds:List (Str×Value)}{m:Str→Option Value},(∀v,(x,v) ∉ binds)→bindC kindOf binds m x=m x
 | [],_,_=>rfl
 | (n,v)::r,m,h=>by
  unfold bindC;rw[SY λw hw=>h w (Az _ hw)]
  split
  · rfl
  · have:x≠n:=by rintro rfl;exact h v AD
    simp[this]
theorem SZ{kindOf:Str→Option NameKind}{x:Str}{v:Value}:∀{P:List Str}{vs:List Value}{i:Nat}{m:Str→Option Value},P.Nodup→P[i]?=some x→vs[i]?=some v→kindOf x=some .local→
 bindL kindOf (P.zip vs) m x=some v
 | [],_,_,_,_,h,_,_=>by simp at h
 | _::_,[],_,_,_,_,h,_=>by simp at h
 | p::P,w::vs,0,m,nd,h1,h2,hk=>by simp at h1 h2;subst h1;subst h2;show bindL kindOf ((p,w)::P.zip vs) m p=_;unfold bindL;rw[S_ λv hv=>(DS.mp nd).1 (EY hv).1,if_pos hk];simp
 | p::P,w::vs,i+1,m,nd,h1,h2,hk=>by show bindL kindOf ((p,w)::P.zip vs) m x=_;unfold bindL;exact SZ (i:=i) (DS.mp nd).2 (by simpa using h1) (by simpa using h2) hk
theorem SX{kindOf:Str→Option NameKind}{x:Str}{v:Value}:∀{P:List Str}{vs:List Value}{i:Nat}{m:Str→Option Value},P.Nodup→P[i]?=some x→vs[i]?=some v→kindOf x≠some .local→
 bindC kindOf (P.zip vs) m x=some v
 | [],_,_,_,_,h,_,_=>by simp at h
 | _::_,[],_,_,_,_,h,_=>by simp at h
 | p::P,w::vs,0,m,nd,h1,h2,hk=>by simp at h1 h2;subst h1;subst h2;show bindC kindOf ((p,w)::P.zip vs) m p=_;unfold bindC;rw[SY λv hv=>(DS.mp nd).1 (EY hv).1,if_neg hk];simp
 | p::P,w::vs,i+1,m,nd,h1,h2,hk=>by show bindC kindOf ((p,w)::P.zip vs) m x=_;unfold bindC;exact SX (i:=i) (DS.mp nd).2 (by simpa using h1) (by simpa using h2) hk
def Kk(N:List Str)(vs:List V):St:=vs.map some++Ce (N.length - vs.length) none
def Ic(CX:JR)(P:Bk)(w:World)(K:Af)(mg:Str→Option Value)(base:Heap)(N:List Str)(qual:Str)(scope:Scope)(f:Addr)(cd:Value)(A:Bq)(outer:List Env)(s:Shared)(H:Hp)(E:XK):Cx where
 prog:=P
 w:=w
 K:=K
 mg:=mg
 base:=base
 A:=A.deeper (envOfC qual scope s.heap.objs.size f cd)
 N:=N
 s₀:=s
 H₀:=H
 env:=envOfC qual scope s.heap.objs.size f cd
 outer:=outer
 stack:=envOfC qual scope s.heap.objs.size f cd::outer
 ex:=[]
 calm:=true
 fn:=λ_=>true
 pn:=[]
 xe:=λe s'=>wpAny (model P w) (A.deeper (envOfC qual scope s.heap.objs.size f cd)) (leaving (envOfC qual scope s.heap.objs.size f cd) e) (λ_ s''=>CX outer H s E e s'') (λe' s''=>CX outer H s E e' s'') s'
theorem SC{sc:Scope}{x:Str}(h:sc.names.lookup x=some .cell):∃c,(BF n sc.names []).lookup x=some c:=by have q:=Ct sc.names n [] (.inl h);exact CI.mp q
theorem X6{CX:JR}{P:Bk}{w:World}{K:Af}{mg:Str→Option Value}{base:Heap}{N ps:List Str}{qual:Str}{scope:Scope}{f:Addr}{cd:Value}{A:Bq}{outer:List Env}{s s1:Shared}{H:Hp}{E:XK}{us:List Value}{vs:List V}
 (S:FnScope N ps scope) (hd:A.handled=none) (e0:Env0 P w K mg base A outer s H) (hl:vs.length=ps.length) (r:Vals vs us)
 (x:InCallC s s.heap.objs.size (bindL (envOfC qual scope s.heap.objs.size f cd).kindOf (ps.zip us) λ_=>none) (BF (s.heap.objs.size+1) scope.names []) (bindC (envOfC qual scope s.heap.objs.size f cd).kindOf (ps.zip us) λ_=>none) s1):
 Inv (Ic CX P w K mg base N qual scope f cd A outer s H E) [] (Kk N vs) H s1:=by
 have hpl:ps.length≤N.length:=by have:=congrArg BC S.pre;rw[AE] at this;omega
 obtain⟨h1,tk,rfl,hk⟩:=x.done;have noA:∀b:Addr,b ∉ (Ic CX P w K mg base N qual scope f cd A outer s H E).ex:=λb z=>absurd (show b∈([]:List Addr) from z) (by simp);refine⟨⟨e0.mod,S.kind,rfl,rfl,Ae _,λy z c h1 h2=>?_,λy hy=>?_,λy c _ h=>?_,λ_=>hd,Around.frames_deeper e0.frames,.inr ⟨rfl,rfl⟩,λb z=>absurd z (noA b),e0.bs,e0.bsz,λb _ _=>noA b,λb z=>absurd z (noA b),e0.funs,e0.frf⟩,
  rfl,e0.bare,Un.kept hk,⟨_,x.toInCall.ns,λi y v h1 h2 h3=>?_⟩,λy c h=>⟨_,x.cell y c h⟩,e0.hok.fresh (Ae _),λy c h=>?_,λp hp=>absurd (show p∈([]:List (Addr×Obj)) from hp) (by simp),e0.hok.kept hk,?_⟩
 · exact name_of_addr x.apart (CP h1) (CP h2)
 · have hy:scope.names.lookup y=some .cell∨scope.names.lookup y=some .free:=hy;rcases hy with hy | hy
   · exact SC hy
   · exact absurd rfl (S.nofree _ (CP hy))
 · exact Bb (x.above y c (CP h))
 · have hi:i<vs.length:=by
    unfold Kk at h2;by_cases hi:i<vs.length
    · exact hi
    · rw[List.getElem?_append_right (by simpa using hi)] at h2;rw[List.getElem?_replicate] at h2
      split at h2<;>cases h2
   have ha:vs[i]?=some v:=by
    unfold Kk at h2;rw[List.getElem?_append_left (by simpa using hi),Ay] at h2;cases e:vs[i]? with
    | none=>rw[e] at h2;cases h2
    | some a=>rw[e] at h2;cases h2;rfl
   obtain⟨u,hu,rv⟩:=r.get ha;have hp:ps[i]?=some y:=by rw[←S.pre,List.getElem?_take_of_lt (by omega)];exact h1
   have ndP:ps.Nodup:=by rw[←S.pre];exact S.nd.sublist (List.take_sublist _ _)
   refine⟨u,rv,?_⟩;rcases S.par y (AA hp) with k | k
   · exact .inl ⟨k,SZ ndP hp hu k⟩
   · obtain⟨c,e⟩:=SC (n:=s.heap.objs.size+1) k;refine .inr ⟨.inl k,c,e,?_⟩;have q:=x.cell y c e;rw[SX ndP hp hu (by show scope.names.lookup y≠_;rw[k];decide)] at q;exact q
 · exact e0.hok.fresh (Bb (x.above y c (CP h)))
 · unfold Kk;show _=N.length;rw[A3,Ab,DL];omega
theorem QB{CX:JR}{P:Bk}{w:World}{K:Af}{mg:Str→Option Value}{base:Heap}{k:Nat}{f:Addr}{name qual:Str}{params:Arguments}{body:List Stmt}{scope:Scope}{dV kV doc pm cdv ct oc:Value}{an od:Option Addr}
 {osl:Array (Option Value)} {N ps:List Str} {sp:Sp} (lk:K.lookup f=some ⟨oc,od,.func (CJ name qual params body scope dV kV doc pm an cdv ct),osl⟩) (hcd:El K cdv qual=true) (S:FnScope N ps scope)
 (len:∀vs H Q E,sp vs H Q E→vs.length=ps.length)
 (hbody:∀(A:Bq)(outer:List Env)(s:Shared)(H:Hp)(vs:List V)(Q:VK)(E:XK),Room k (A.deeper (envOfC qual scope s.heap.objs.size f cdv))→sp vs H Q E→
  ∃t,PSs (Ic CX P w K mg base N qual scope f cdv A outer s H E) body t∧t {nx:=λ_ H'=>Q .non H',rt:=Q} (Kk N vs) H):
 FnOk P w K mg base CX (k+1) f (CJ name qual params body scope dV kV doc pm an cdv ct) ps sp:=by
 refine⟨len,λA outer s H args us vs Q E hr e0 hb r hsp=>?_⟩;have hl:=len _ _ _ _ hsp;have KX:K.In s.heap:=e0.mod.kin.keeps λb o e=>(e0.bs b o e).1;have lim:s.heap.NoLimit:=e0.mod.nolimit.keeps λb o e=>(e0.bs b o e).1;have hkind:∀y∈ps.zip us,scope.names.lookup y.1=some .local∨(scope.names.lookup y.1=some .cell∧((BF (s.heap.objs.size+1) scope.names []).lookup y.1).isSome=true):=λ⟨n,v⟩ hy=>by
  rcases S.par n (EY hy).1 with q | q
  · exact .inl q
  · exact .inr ⟨q,Ct _ _ _ (.inl q)⟩
 refine codeAny_call_function hr.depth (KX _ _ lk) rfl S.co S.gen rfl (PySem.W.codeRec_of KX hcd) (hb _ _ _ _ ?_);refine wpAny_newFunctionEnv_cells S.kind hkind λenv he s1 x=>?_;subst he;refine⟨lim.keeps x.toInCall.keep,codeAny_func ?_⟩;obtain⟨t,ht,hq⟩:=hbody A outer s H vs Q E (hr.deeper _) hsp;have I:Inv (Ic CX P w K mg base N qual scope f cdv A outer s H E) [] (Kk N vs) H s1:=X6 S hr.hd e0 hl r x;refine A9 (ht [] s1 (Kk N vs) H _ I hq) (λfl s' hs=>?_) λe s' hs=>hs;have fin:∀{σ':St}{H':Hp}{v:V}{u:Value},Inv (Ic CX P w K mg base N qual scope f cdv A outer s H E) [] σ' H' s'→RelV v u→Q v H'→CE outer P w H s Q u s':=
  λ{σ' H' v u}J rv q=>⟨v,H',J.os,J.bare,J.base,J.hok,rv,q⟩
 cases fl with
 | ret u=> obtain⟨v,σ',H',J,rv,q⟩:=hs;exact fin J rv q
 | next=> obtain⟨σ',H',J,q⟩:=hs;exact fin (v:=V.non) (u:=Value.none) J rfl q
 | brk=> obtain⟨_,_,_,q⟩:=hs;exact B_ q
 | cont=> obtain⟨_,_,_,q⟩:=hs;exact B_ q
section
variable{X:Cx}{x:Str}{p:Pos}{es:List Expr}{t:TA}{id T:String}{r:List V→Hp→VK→Prop}
def Ma(r:List V→Hp→VK→Prop)(t:TA):TE:=λσ H Q=>t σ H λvs H1=>r vs H1 Q
theorem Hr(hc:IZ X (.builtin id) r)(hg:Gl X x)(hm:X.mg x=none)(hv:AO x=some (.builtin id))(ha:PA X (e::es) t)(hn:x≠"__name__":=by decide)(hdb:(x==("__debug__":Str))=false:=by decide)
 (he:A1 (e::es) X.env=(false,eval e X.env)::A1 es X.env:=by rfl) (hpl:(backTo pos (A1 es X.env)).any (·.1)=false:=by rfl):PE X (.Call (.Name x p) (e::es) [] pos) (Ma r t):=by
 intro pins s σ H Q I h;refine BP (KE I hg hm hv ?_ hn hdb);exact CW (He (ha pos pins s σ H _ I h) λus s1 ⟨vs,H1,I1,r1,q1⟩=>hc pins s1 σ H1 vs us Q I1 r1 q1) he hpl
theorem JE(hc:IZ X (.type T) r)(hg:Gl X x)(hm:X.mg x=none)(hv:AO x=some (.type T))(ha:PA X (e::es) t)(hn:x≠"__name__":=by decide)(hdb:(x==("__debug__":Str))=false:=by decide)
 (he:A1 (e::es) X.env=(false,eval e X.env)::A1 es X.env:=by rfl) (hpl:(backTo pos (A1 es X.env)).any (·.1)=false:=by rfl):PE X (.Call (.Name x p) (e::es) [] pos) (Ma r t):=by
 intro pins s σ H Q I h;refine BP (KE I hg hm hv ?_ hn hdb);exact Cu (He (ha pos pins s σ H _ I h) λus s1 ⟨vs,H1,I1,r1,q1⟩=>hc pins s1 σ H1 vs us Q I1 r1 q1) he hpl
end
end L2
variable{H:L2.Hp}{X:L2.Cx}{σ:L2.St}{xs:List L2.V}{x:PySem.Str}
namespace HT
open PySem PyProof.Rows
section
open PySem.SeqAt
open PySem.AutoSeq1 (wpAny_loadPart')
open PySem.MeetsSeq PySem.MeetsSeq2 PySem.MeetsSeq3
end
theorem cat_tup{t:Addr}{vs ws:List Value}{Q:Value→Shared→Prop}(ht:IsTup s.heap t vs.toArray)(hb:IsTup s.heap b ws.toArray)(hv:vs≠[])
 (h1:ws=[]→Q (.ref t) s) (h2:ws≠[]→Q (.ref s.heap.objs.size) {s with heap:=s.heap.push {cls:= .type "tuple",data:= .seq (vs++ws).toArray}})
 (hsz:vs.length+ws.length≤Ag):wpAny (model prog w) A (binaryOp .Add (.ref t) (.ref b)) Q E s:=by
 obtain⟨⟨cls,dd,data,sl⟩,ho,hc,n,hd⟩:=id ht;obtain⟨⟨cls2,dd2,data2,sl2⟩,ho2,hc2,n2,hd2⟩:=id hb;simp only at hc hd hc2 hd2;subst hc hd hc2 hd2;have e:vs.toArray++ws.toArray=(vs++ws).toArray:=by simp
 by_cases hw:ws=[]
 · exact concat_meets ⟨_,ho,rfl⟩ ⟨_,ho2,rfl⟩ noFill_tuple_add seq_tuple_add Fd ES (EG _ _)
    (tuple_addW1 t b vs.toArray ws.toArray n n2 dd dd2 sl sl2 (by simpa using hv) (by simp[hw])) ⟨ho,ho2,h1 hw⟩
 · refine concat_meets ⟨_,ho,rfl⟩ ⟨_,ho2,rfl⟩ noFill_tuple_add seq_tuple_add Fd ES (EG _ _)
    (tuple_addW2 t b vs.toArray ws.toArray n n2 dd dd2 sl sl2 (by simpa using hv) (by simpa using hw) (by rw[Al,Al];exact hsz)) ⟨ho,ho2,?_⟩
   rw[e];exact h2 hw
def sIx(n d:Nat):Option Int→Nat
 | none=>d
 | some v=>if v<0 then(v+(n:Int)).toNat else min v.toNat n
theorem sIx_nat(n d k:Nat):sIx n d (some (k:Int))=min k n:=by
 show(if(k:Int)<0 then((k:Int)+(n:Int)).toNat else min (k:Int).toNat n)=min k n
 rw[if_neg (by omega),AI]
theorem VJ(n d:Nat)(hd:d≤n)(o:Option Int):sIx n d o≤n:=by
 cases o with
 | none=>exact hd
 | some v=>
  show(if v<0 then(v+(n:Int)).toNat else min v.toNat n)≤n
  by_cases hv:v<0
  · rw[if_pos hv];omega
  · rw[if_neg hv];exact Nat.min_le_right _ _
theorem RB(v:Int)(n d:Nat):(if v<0 then max (v+(n:Int)) 0 else min v (n:Int))=((sIx n d (some v):Nat):Int):=by
 show(if v<0 then max (v+(n:Int)) 0 else min v (n:Int))=(((if v<0 then(v+(n:Int)).toNat else min v.toNat n):Nat):Int)
 by_cases hv:v<0
 · simp only[if_pos hv];omega
 · simp only[if_neg hv];omega
theorem XN(lo hi:Option Int)(n:Nat):Dq lo hi 1 (n:Int)=(((sIx n 0 lo:Nat):Int),((sIx n n hi:Nat):Int)):=by
 have h1:¬((1:Int)<0):=by omega
 unfold Dq;simp only[h1,if_false];refine Prod.ext ?_ ?_
 · cases lo with
   | none=>rfl
   | some v=>exact RB v n 0
 · cases hi with
   | none=>rfl
   | some v=>exact RB v n n
theorem XY(i j:Nat):CD (i:Int) (j:Int) 1=j - i:=by
 unfold CD;have h1:(1:Int)>0:=by omega
 simp only[h1,if_true,Int.ediv_one]
 split<;>omega
theorem TD{v:Value}{o:Option Int}{Q:Option Int→Shared→Prop}(p:IsPart v o)(h:Q o s):wpAny (model prog w) A (Builtin.Slice.slicePartIndex v) Q E s:=by
 cases p with
 | none=>exact slicePart_none h
 | int i t=>exact slicePart_int h
theorem sliceApplied_gen{sl:Addr}{vl vu:Value}{lo hi:Option Int}{n:Nat}{Q:Int×Int×Nat→Shared→Prop}(hs:s.heap.IsSliceOf sl vl vu .none)(pl:IsPart vl lo)(pu:IsPart vu hi)
 (h:Q (((sIx n 0 lo:Nat):Int),1,sIx n n hi - sIx n 0 lo) s):wpAny (model prog w) A (E2 (.ref sl) (pure (n:Int))) Q E s:=by
 obtain⟨os,hos,hcs,hds⟩:=id hs;unfold E2 Builtin.Slice.sliceFields;refine Aa (Aa (AV hos hds (x:=vl) rfl (Aa (AV hos hds (x:=vu) rfl (Aa (AV hos hds (x:= .none) rfl (Ac ?_)))))));refine Aa (slicePart_none ?_);show wpAny _ _ (if((1:Int)==0)=true then _ else _) _ _ s
 rw[if_neg (by decide)];refine Aa (TD pl (Aa (TD pu (Aa (Ac ?_)))));show wpAny _ _ (match Dq lo hi 1 (n:Int) with | (lo,hi)=>pure (lo,(1:Int),CD lo hi 1)) _ _ s
 rw[XN lo hi n];show wpAny _ _ (pure (((sIx n 0 lo:Nat):Int),(1:Int),CD ((sIx n 0 lo:Nat):Int) ((sIx n n hi:Nat):Int) 1)) _ _ s;rw[XY];exact Ac h
theorem WM(xs:Array Value)(i k:Nat):((AY k).filterMap λ(m:Nat)=>xs[((i:Int)+(m:Int)*1).toNat]?).toArray=((xs.toList.drop i).take k).toArray:=by
 have e:(λ(m:Nat)=>xs[((i:Int)+(m:Int)*1).toNat]?)=λm=>xs[i+m]?:=by
  funext m;have:((i:Int)+(m:Int)*1).toNat=i+m:=by omega
  rw[this]
 rw[e];have:=pick_run xs i k;rw[List.filterMap_map] at this;have e2:((λx=>xs[x]?)∘λx=>i+x)=λm=>xs[i+m]?:=rfl;rw[e2] at this;rw[this]
theorem getItem_tuple_cut{t sl:Addr}{items:Array Value}{vl vu:Value}{lo hi:Option Int}{Q:Value→Shared→Prop}(ht:IsTup s.heap t items)(hs:s.heap.IsSliceOf sl vl vu .none)(pl:IsPart vl lo)(pu:IsPart vu hi)
 (hw:¬(sIx items.size 0 lo=0∧sIx items.size items.size hi=items.size))
 (h:Q (.ref s.heap.objs.size) {s with heap:=s.heap.push {cls:= .type "tuple",data:= .seq ((items.toList.drop (sIx items.size 0 lo)).take (sIx items.size items.size hi - sIx items.size 0 lo)).toArray}})
 (hsz:items.size≤Ag):wpAny (model prog w) A (getItem (.ref t) (.ref sl)) Q E s:=by
 have htake:sizeOk (.seq ((items.toList.drop (sIx items.size 0 lo)).take (sIx items.size items.size hi - sIx items.size 0 lo)).toArray):=by show((items.toList.drop (sIx items.size 0 lo)).take (sIx items.size items.size hi - sIx items.size 0 lo)).toArray.size≤Ag;rw[Al,AE,CK,Ar];omega
 have hj:sIx items.size items.size hi≤items.size:=VJ _ _ (Ae _) hi;obtain⟨os,hos,hcs,hds⟩:=id hs;have hTs:s.TypeIs (.ref sl) "slice":=⟨os,hos,hcs⟩;unfold getItem
 try with_reducible refine Bn ?_
 first | refine Aa (Ac ?_) | skip
 refine Aa (E8 ht.typeIs (by decide) ?_);refine Aa (Be (name:=BZ "__getitem__") ht.typeIs Br
  (AZ Br ht.typeIs entry_tuple_getitem ?_ (args_tuple_getitem _ _)))
 show wpAny _ _ (E3 (.ref t)>>=_) _ _ s;refine Aa (tupleItemsOf_ ht ?_);refine Aa (CL hTs ?_);rw[if_pos (by decide)];refine Aa (sliceApplied_gen hs pl pu ?_);have hno:¬((((sIx items.size 0 lo:Nat):Int)==0 && (1:Int)==1 && (sIx items.size items.size hi - sIx items.size 0 lo)==items.size)=true):=by intro q;rw[A2,A2] at q;have q1:((sIx items.size 0 lo:Nat):Int)=0:=eq_of_beq q.1.1;have q2:sIx items.size items.size hi - sIx items.size 0 lo=items.size:=eq_of_beq q.2;exact hw ⟨by omega,by omega⟩
 show wpAny _ _ (if(((sIx items.size 0 lo:Nat):Int)==0 && (1:Int)==1 && (sIx items.size items.size hi - sIx items.size 0 lo)==items.size)=true then _ else _) _ _ s
 rw[if_neg hno,WM]
 first
  | exact Aa (m:=CM _) (Ba (Ac ⟨_,rfl,Ac h⟩) htake)
  | exact Aa (m:=CM _) (Ba (Aa (Ac (Ac ⟨_,rfl,Ac h⟩))) htake)
  | exact Aa (Aa (m:=CM _) (Ba (Ac (Ac ⟨_,rfl,Ac h⟩)) htake))
  | exact Aa (Aa (m:=CM _) (Ba (Ac ⟨_,rfl,Ac h⟩) htake))
end HT
namespace L2
abbrev TO:=St→Hp→(Option Int→Hp→Prop)→Prop
def PO(X:Cx)(e:Option Expr)(t:TO):Prop:=
 ∀(pins:List (Addr×Obj))(s:Shared)(σ:St)(H:Hp)(Q:Option Int→Hp→Prop),Inv X pins σ H s→t σ H Q→
  wpAny (model X.prog X.w) X.A (evalPart e X.env) (λu s'=>∃o H',Inv X pins σ H' s'∧IsPart u o∧Q o H') X.xe s
def Sd:TO:=λ_ H Q=>Q none H
def Uw(t:TE):TO:=λσ H Q=>t σ H λx H1=>∃i,x= .int i∧Q (some i) H1
section
variable{te:TE}{lo hi:Option Expr}{tl th:TO}{p2:Pos}
theorem Kv:PO X none Sd:=by intro pins s σ H Q I h;rw[evalPart_none];exact Ac ⟨none,H,I,.none,h⟩
theorem Kw(h:PE X e te):PO X (some e) (Uw te):=by intro pins s σ H Q I hw;rw[evalPart_some];refine He (h pins s σ H _ I hw) λu s1 ⟨x,H1,I1,r1,q1⟩=>?_;obtain⟨i,rfl,q⟩:=q1;obtain⟨t,rfl⟩:=r1;exact⟨some i,H1,I1,.int i t,q⟩
def L6(X:Cx)(r:V→Option Int→Option Int→Hp→VK→Prop):Prop:=
 ∀(pins:List (Addr×Obj))(s:Shared)(σ:St)(H:Hp)(x:V)(v vl vu:Value)(lo hi:Option Int)(sl:Addr)(Q:VK),Inv X pins σ H s→RelV x v→s.heap.IsSliceOf sl vl vu .none→IsPart vl lo→IsPart vu hi→r x lo hi H Q→
  ∃T id,typeLookup (.type T) "__getitem__"=pure (some (.builtin id))∧s.TypeIs v T∧wpAny (model X.prog X.w) X.A (getItem v (.ref sl)) (EP X pins σ Q) X.xe s
def ZO(r:V→Option Int→Option Int→Hp→VK→Prop)(te:TE)(tl th:TO):TE:=λσ H Q=>te σ H λx H1=>tl σ H1 λl H2=>th σ H2 λu H3=>r x l u H3 Q
theorem Kp{r:V→Option Int→Option Int→Hp→VK→Prop}(hr:L6 X r)(he:PE X e te)(hl:PO X lo tl)(hu:PO X hi th):PE X (.Subscript e (.Slice lo hi none p2) pos) (ZO r te tl th):=by
 intro pins s σ H Q I h;refine Subscript_ (He (he pins s σ H _ I h) λv s1 ⟨x,H1,I1,r1,q1⟩=>?_);refine wpAny_Slice (He (hl pins s1 σ H1 _ I1 q1) λvl s2 ⟨l,H2,I2,pl,q2⟩=>He (hu pins s2 σ H2 _ I2 q2) λvu s3 ⟨u,H3,I3,pu,q3⟩=>?_);rw[evalPart_none];refine Ac ?_;have I4:Inv X pins σ H3 {s3 with heap:=s3.heap.push {cls:= .type "slice",data:= .fields #[vl,vu,.none]}}:=I3.kept (t':=s3.toks) λb ob q=>Ad _ q
 obtain⟨T,id,hT,ht,hg⟩:=hr pins {s3 with heap:=s3.heap.push {cls:= .type "slice",data:= .fields #[vl,vu,.none]}} σ H3 x v vl vu l u s3.heap.objs.size Q I4 r1 (Heap.IsSliceOf.new ..) pl pu q3;show wpAny (model X.prog X.w) X.A (subscriptTail e (.Slice lo hi none p2) v (.ref s3.heap.objs.size)) (EP X pins σ Q) X.xe {s3 with heap:=s3.heap.push {cls:= .type "slice",data:= .fields #[vl,vu,.none]}};exact tail_any (ops:=[.ref s3.heap.objs.size,v]) ht hT hg (by with_unfolding_all rfl)
def Ip(xs:List V)(lo hi:Option Int):List V:=(xs.drop (HT.sIx xs.length 0 lo)).take (HT.sIx xs.length xs.length hi - HT.sIx xs.length 0 lo)
theorem TL(xs:List V)(lo hi:Option Int):(Ip xs lo hi).length≤xs.length:=by unfold Ip;rw[AE,CK];omega
def Qb(K:Af):V→Option Int→Option Int→Hp→VK→Prop:=λx lo hi H Q=>∃a xs,x= .ref a∧SqT K H a xs∧
 ¬(HT.sIx xs.length 0 lo=0∧HT.sIx xs.length xs.length hi=xs.length)∧∀p,H p=none→Q (.ref p) (GZ H p (.tup (Ip xs lo hi)))
theorem Vh:L6 X (Qb X.K):=by
 intro pins s σ H x v vl vu lo hi sl Q I rx hs pl pu h;obtain⟨a,xs,rfl,hx,hw,q⟩:=h;cases rx;obtain⟨its,r,ht,hz⟩:=I.tuple hx;have hlen:its.toArray.size=xs.length:=by rw[Al];exact r.length.symm
 refine⟨"tuple",_,Br.lookup,ht.typeIs,?_⟩;refine HT.getItem_tuple_cut ht hs pl pu (by rw[hlen];exact hw) ?_ (by rw[hlen];exact hz);rw[hlen];refine⟨.ref s.heap.objs.size,_,I.laid (t':=s.toks) (o:= .tup (Ip xs lo hi)) (λb ob q=>Ad _ q) (Ae _) ?_,rfl,q _ (I.hok.fresh (Ae _))⟩;exact⟨A8 (TL xs lo hi) hz,_,(r.drop (HT.sIx xs.length 0 lo)).take (HT.sIx xs.length xs.length hi - HT.sIx xs.length 0 lo),IsTupP.new _ _⟩
def QL(K:Af):R2:=λx y H Q=>∃a b xs ys,x= .ref a∧y= .ref b∧SqT K H a xs∧SqT K H b ys∧xs≠[]∧xs.length+ys.length≤Ag∧
 (ys=[]→Q (.ref a) H)∧(ys≠[]→∀p,H p=none→Q (.ref p) (GZ H p (.tup (xs++ys))))
theorem Vals.nil_iff(r:Vals xs us):us=[]↔xs=[]:=by
 cases r with
 | nil=>simp
 | cons _ _=>simp
theorem Wp:HQ X (binaryOp .Add) (QL X.K):=by intro pins s σ H x y v u Q I rx ry h;obtain⟨a,b,xs,ys,rfl,rfl,ha,hb,hx,hz,q1,q2⟩:=h;cases rx;cases ry;obtain⟨its,r1,p1,_⟩:=I.tuple ha;obtain⟨its2,r2,p2,_⟩:=I.tuple hb;refine HT.cat_tup p1 p2 (λz=>hx (r1.nil_iff.mp z)) (λz=>⟨.ref a,H,I,rfl,q1 (r2.nil_iff.mp z)⟩) (λz=>?_) (by rw[←r1.length,←r2.length];exact hz);refine⟨.ref s.heap.objs.size,_,I.laid (t':=s.toks) (o:= .tup (xs++ys)) (λb ob q=>Ad _ q) (Ae _) ?_,rfl,q2 (λw=>z (r2.nil_iff.mpr w)) _ (I.hok.fresh (Ae _))⟩;exact⟨by rw[A3];exact hz,_,r1.append r2,IsTupP.new _ _⟩
end
def JY(n:Nat)(i:Int):Option Nat:=if 0≤i then(if i<n then some i.toNat else none) else if -(n:Int)≤i then some (i+n).toNat else none
def Ir{α:Type}(xs:List α)(i:Int):Option α:=(JY xs.length i).bind λj=>xs[j]?
theorem Mo{i:Int}{j:Nat}(h:JY n i=some j):seqIndex? i n=some j∧j<n∧ -(n:Int)≤i∧i<n:=by
 unfold JY at h;by_cases h0:0≤i
 · rw[if_pos h0] at h;by_cases h1:i<n
   · rw[if_pos h1] at h;have e:i.toNat=j:=Am h;exact⟨by rw[seqIndex_of h0 h1,e],by omega,by omega,h1⟩
   · rw[if_neg h1] at h;cases h
 · rw[if_neg h0] at h;by_cases h1: -(n:Int)≤i
   · rw[if_pos h1] at h;have e:(i+n).toNat=j:=Am h;exact⟨by rw[seqIndex_neg (by omega) h1,e],by omega,h1,by omega⟩
   · rw[if_neg h1] at h;cases h
theorem O6{α:Type}{xs:List α}{i:Int}{v:α}(h:Ir xs i=some v):∃j,seqIndex? i xs.length=some j∧xs[j]?=some v∧j<xs.length∧ -(xs.length:Int)≤i∧i<xs.length:=by
 unfold Ir at h;cases e:JY xs.length i with
 | none=>rw[e] at h;cases h
 | some j=> rw[e] at h;obtain⟨h1,h2,h3,h4⟩:=Mo e;exact⟨j,h1,h,h2,h3,h4⟩
theorem Jh{α:Type}{xs:List α}{j:Nat}{v:α}(h:xs[j]?=some v):Ir xs (j:Int)=some v:=by
 have hj:j<xs.length:=(AM.mp h).1;have e:JY xs.length (j:Int)=some j:=by unfold JY;rw[if_pos (by omega),if_pos (by omega)];simp
 unfold Ir;rw[e];exact h
def Vs(b:Expr):Prop:=∀o i,subscripted b false o i=operate [o,i] (getItem o i)
def KU(X:Cx)(r:R2):Prop:=
 ∀(value slice:Expr)(pins:List (Addr×Obj))(s:Shared)(σ:St)(H:Hp)(x y:V)(v u:Value)(Q:VK),Inv X pins σ H s→RelV x v→RelV y u→r x y H Q→
  subscripted slice false v u=operate [v,u] (getItem v u)→wpAny (model X.prog X.w) X.A (subscriptTail value slice v u) (EP X pins σ Q) X.xe s
def ZW(X:Cx)(id:String)(r:V→List V→Hp→VK→Prop):Prop:=
 ∀(pins:List (Addr×Obj))(s:Shared)(σ:St)(H:Hp)(x:V)(xs:List V)(v:Value)(us:List Value)(Q:VK),Inv X pins σ H s→RelV x v→Vals xs us→r x xs H Q→
  wpAny (model X.prog X.w) X.A (call (.builtin id) (v::us)) (EP X pins σ Q) X.xe s
section
variable{a b:Expr}{ta tb:TE}
theorem Hy{r:R2}(hr:KU X r)(ha:PE X a ta)(hb:PE X b tb)(hs:Vs b):PE X (.Subscript a b pos) (Lr r ta tb):=by intro pins s σ H Q I h;exact Subscript_ (Ly ha hb I h λv u s2 x y H2 I2 rx ry q=>hr a b pins s2 σ H2 x y v u Q I2 rx ry q (hs _ _))
def MI(K:Af):R2:=λx y H Q=>∃p xs i v,x= .ref p∧y= .int i∧SqL K H p xs∧Ir xs i=some v∧Q v H
def MH(K:Af):R2:=λx y H Q=>∃p xs i v,x= .ref p∧y= .int i∧SqT K H p xs∧Ir xs i=some v∧Q v H
def Qd:R2:=λx y H Q=>∃z i c,x= .str z∧y= .int i∧z.length≤Ag∧Ir z.cps.toList i=some c∧Q (.str ⟨#[c]⟩) H
theorem Ig:KU X (MI X.K):=by
 intro value slice pins s σ H x y v u Q I rx ry h hs;obtain⟨p,xs,i,z,rfl,rfl,hq,he,q⟩:=h;cases rx;obtain⟨t,rfl⟩:=ry;obtain⟨its,r,pl,hz⟩:=I.list hq;obtain⟨j,h1,h2,h3,h4,h5⟩:=O6 he;obtain⟨w,ew,rw'⟩:=r.get h2;have hl:=r.length;have hn:=LJ;have fin:EP X pins σ Q w s:=⟨z,H,I,rw',q⟩;by_cases h0:0≤i
 · have hj:i.toNat=j:=by
    rw[seqIndex_of h0 h5] at h1;exact Am h1
   exact item_listR pl.isList h0 (by omega) (by rw[hj];simpa using ew) fin hs
 · have hj:(i+(its.toArray.size:Int)).toNat=j:=by
    rw[seqIndex_neg (by omega) h4] at h1;rw[Al,←hl];exact Am h1
   exact Fe (x:=w) pl.isList.typeIs slot_list_getitem.lookup
    (wpAny_getItem_list_neg (Q:=λr s'=>r=w∧EP X pins σ Q r s') pl.isList (by omega) (by rw[Al]<;>omega) (by omega) (by rw[hj];simpa using ew) ⟨rfl,fin⟩) hs
theorem Jl:KU X (MH X.K):=by
 intro value slice pins s σ H x y v u Q I rx ry h hs;obtain⟨p,xs,i,z,rfl,rfl,hq,he,q⟩:=h;cases rx;obtain⟨t,rfl⟩:=ry;obtain⟨its,r,pl,hz⟩:=I.tuple hq;obtain⟨j,h1,h2,h3,h4,h5⟩:=O6 he;obtain⟨w,ew,rw'⟩:=r.get h2;have hl:=r.length;have hn:=LJ;have fin:EP X pins σ Q w s:=⟨z,H,I,rw',q⟩;exact Fe (x:=w) pl.typeIs slot_tuple_getitem.lookup
  (getItem_tuple (j:=j) (Q:=λr s'=>r=w∧EP X pins σ Q r s') pl (by omega) (by omega) (by rw[Al,←hl];exact h1) (by simpa using ew) ⟨rfl,fin⟩) hs
theorem LS:KU X Qd:=by
 intro value slice pins s σ H x y v u Q I rx ry h hs;obtain⟨z,i,c,rfl,rfl,hz,he,q⟩:=h;obtain⟨t,rfl⟩:=rx;obtain⟨t',rfl⟩:=ry;obtain⟨j,h1,h2,h3,h4,h5⟩:=O6 he;have hl:z.cps.toList.length=z.length:=by simp[Str.length]
 rw[hl] at h1 h4 h5;have hn:=LJ;exact tail_any (typeIs_str s z t) slot_str_getitem.lookup (getItem_str (c:=c) (by have e1:decide (i< -(2^63:Int))=false:=decide_eq_false (by omega);have e2:decide (i≥2^63)=false:=decide_eq_false (by omega);rw[e1,e2,Bool.or_false]) (by rw[h1];simpa using h2) ⟨.str ⟨#[c]⟩,H,I.tok _,⟨_,rfl⟩,q⟩) hs
theorem XS(its:List Value)(n j:Nat)(u:Value):CF (·.setIfInBounds j u) {cls:= .type "list",data:= .seq its.toArray n}={cls:= .type "list",data:= .seq (its.set j u).toArray n}:=by simp[CF]
theorem Inv.lst{p:Addr}(I:Inv X pins σ H s)(h:H p=some (.lst xs)):
 ∃(its:List Value)(n:Nat),Vals xs its∧s.heap.get? p=some {cls:= .type "list",data:= .seq its.toArray n}∧xs.length≤Ag:=by
 obtain⟨z,its,n,r,e⟩:=I.hok p _ h;exact⟨its,n,r,e,z⟩
theorem Inv.lstUpd{p:Addr}{ys:List V}{its its':List Value}{n n':Nat}{f:Obj→Obj}(I:Inv X pins σ H s)(h:H p=some (.lst xs))
 (ho:s.heap.get? p=some {cls:= .type "list",data:= .seq its.toArray n}) (hf:f {cls:= .type "list",data:= .seq its.toArray n}={cls:= .type "list",data:= .seq its'.toArray n'}) (r:Vals ys its') (hz:ys.length≤Ag) (t:Nat):
 Inv X pins σ (GZ H p (.lst ys)) {s with heap:=s.heap.update p f,toks:=t}:=by
 have e:(s.heap.update p f).get? p=some {cls:= .type "list",data:= .seq its'.toArray n'}:=by rw[Bz f ho (by rw[hf]<;>rfl),hf]
 refine I.write (x:=p) (e:=p) (by rw[h];trivial) (.inl rfl) (λb u hb q=>(BJ _ _ (By hb)).trans q) ⟨_,e⟩ ?_;exact⟨hz,its',n',r,e⟩
def U_:V→V→V→Hp→(Hp→Prop)→Prop:=λo i v H Q=>∃p xs k j,o= .ref p∧i= .int k∧H p=some (.lst xs)∧JY xs.length k=some j∧Q (GZ H p (.lst (xs.set j v)))
theorem N9:MY X U_:=by
 intro pins s σ H o i v ov iv u Q I ro ri rv h;obtain⟨p,xs,k,j,rfl,rfl,hp,hj,q⟩:=h;cases ro;obtain⟨t,rfl⟩:=ri;obtain⟨its,n,r,ho,hz⟩:=I.lst hp;obtain⟨h1,h2,h3,h4⟩:=Mo hj;have hl:=r.length;have hn:=LJ;have I':Inv X pins σ (GZ H p (.lst (xs.set j v))) {s with heap:=s.heap.update p (CF (·.setIfInBounds j u))}:=
  I.lstUpd hp ho (XS its n j u) (r.set rv j) (by rw[List.length_set];exact hz) s.toks
 by_cases h0:0≤k
 · have hk:k.toNat=j:=by
    rw[seqIndex_of h0 h4] at h1;exact Am h1
   exact PySem.W.ki_setAt ho h0 (by omega) (by rw[Al,←hl];exact h4) (by rw[hk];exact⟨_,I',q⟩)
 · have hk:(k+(its.toArray.size:Int)).toNat=j:=by
    rw[seqIndex_neg (by omega) h3] at h1;rw[Al,←hl];exact Am h1
   exact PySem.W.ki_setBack ho (by omega) (by rw[Al,←hl];exact h3) (by omega) (by rw[hk];exact⟨_,I',q⟩)
theorem Zr(lo hi:Option Int)(n:Nat):(sliceBounds lo hi none n).1=((HT.sIx n 0 lo:Nat):Int)∧(sliceBounds lo hi none n).2.1=((HT.sIx n n hi:Nat):Int)∧(sliceBounds lo hi none n).2.2=1:=by
 refine⟨?_,?_,rfl⟩
 · cases lo with
   | none=>simp[sliceBounds,HT.sIx]
   | some i=>
    simp only[sliceBounds,HT.sIx,EH,show(1:Int)>0 by decide,if_true];by_cases h:i<0
    · simp only[h,if_true]<;>omega
    · simp only[h,if_false]<;>omega
 · cases hi with
   | none=>simp[sliceBounds,HT.sIx]
   | some i=>
    simp only[sliceBounds,HT.sIx,EH,show(1:Int)>0 by decide,if_true];by_cases h:i<0
    · simp only[h,if_true]<;>omega
    · simp only[h,if_false]<;>omega
theorem Z1(its:List Value)(lo hi:Option Int):slicePick its.toArray lo hi none=((its.drop (HT.sIx its.length 0 lo)).take (HT.sIx its.length its.length hi - HT.sIx its.length 0 lo)).toArray:=by obtain⟨h1,h2,h3⟩:=Zr lo hi its.toArray.size;unfold slicePick;rw[h1,h2,h3];simp only[sliceRange_one,pick_run,Al]<;>rfl
def Qc(K:Af):V→Option Int→Option Int→Hp→VK→Prop:=λx lo hi H Q=>∃a xs,x= .ref a∧SqL K H a xs∧∀p,H p=none→Q (.ref p) (GZ H p (.lst (Ip xs lo hi)))
theorem RS:L6 X (Qc X.K):=by intro pins s σ H x v vl vu lo hi sl Q I rx hs pl pu h;obtain⟨a,xs,rfl,hx,q⟩:=h;cases rx;obtain⟨its,r,ht,hz⟩:=I.list hx;have hlen:=r.length;refine⟨"list",_,slot_list_getitem.lookup,ht.isList.typeIs,?_⟩;refine wpAny_getItem_list_slice ht.isList hs pl pu .none (by simp) ?_ (by rw[Al]<;>omega);rw[Z1,←hlen];refine⟨.ref s.heap.objs.size,_,I.laid (t':=s.toks) (o:= .lst (Ip xs lo hi)) (λb ob q=>Ad _ q) (Ae _) ?_,rfl,q _ (I.hok.fresh (Ae _))⟩;exact⟨A8 (TL xs lo hi) hz,_,0,(r.drop (HT.sIx xs.length 0 lo)).take (HT.sIx xs.length xs.length hi - HT.sIx xs.length 0 lo),Aq _ rfl⟩
theorem TX:HQ X (Bj .NotIn) (λx y H Q=>∃i j,x= .str i∧y= .str j∧Q (.bl (!(!(D0 j i 0 j.length 1).isEmpty))) H):=by intro pins s σ H x y v u Q I rx ry h;obtain⟨i,j,rfl,rfl,q⟩:=h;obtain⟨t,rfl⟩:=rx;obtain⟨t',rfl⟩:=ry;exact notIn_str ⟨.bl _,H,I,rfl,q⟩
theorem JN:IZ X (.builtin "len") (λxs H Q=>∃p ys,xs=[.ref p]∧(SqL X.K H p ys∨SqT X.K H p ys)∧Q (.int ys.length) H):=by
 intro pins s σ H xs us Q I r h;obtain⟨p,ys,rfl,hq,q⟩:=h;obtain⟨u,rfl,rx⟩:=J3 r;cases rx;have hn:=LJ;rcases hq with hq | hq
 · obtain⟨its,r',pl,hz⟩:=I.list hq;have hlen:=r'.length;exact Calls.call_len_list pl.isList (by simp only[Al]<;>omega) ⟨.int ys.length,H,I.tok _,⟨s.toks+1,by rw[Al,hlen]⟩,q⟩
 · obtain⟨its,r',pl,hz⟩:=I.tuple hq;have hlen:=r'.length;exact len_tuple pl (by simp only[Al]<;>omega) ⟨.int ys.length,H,I.tok _,⟨s.toks+1,by rw[Al,hlen]⟩,q⟩
theorem Lp:IZ X (.builtin "len") (λxs H Q=>∃z,xs=[.str z]∧z.length≤Ag∧Q (.int z.length) H):=by intro pins s σ H xs us Q I r h;obtain⟨z,rfl,hz,q⟩:=h;obtain⟨u,rfl,t,rfl⟩:=J3 r;have hn:=LJ;exact len_str (by omega) ⟨.int z.length,H,I.tok _,⟨_,rfl⟩,q⟩
theorem Ln:IZ X (.type "tuple") (λxs H Q=>∃p ys,xs=[.ref p]∧((SqL X.K H p ys∧∀l,H l=none→Q (.ref l) (GZ H l (.tup ys)))∨(SqT X.K H p ys∧Q (.ref p) H))):=by
 intro pins s σ H xs us Q I r h;obtain⟨p,ys,rfl,h⟩:=h;obtain⟨u,rfl,rx⟩:=J3 r;cases rx;rcases h with⟨hq,q⟩ | ⟨hq,q⟩
 · obtain⟨its,r',pl,hz⟩:=I.list hq;have hlen:=r'.length;refine call_tuple_list pl.isList (λh' kp=>?_) (by simp only[Al]<;>omega);have I1:Inv X pins σ H {s with heap:=h'}:=I.kept (t':=s.toks) kp;have I2:Inv X pins σ (GZ H h'.objs.size (.tup ys)) {s with heap:=h'.push {cls:= .type "tuple",data:= .seq its.toArray}}:=
    I1.laid (t':=s.toks) (λb o e=>Ad _ e) (Ae _) (show ObjOk X.prog X.w _ _ _ (.tup ys) from⟨hz,its,r',IsTupP.new _ _⟩)
   exact⟨.ref h'.objs.size,_,I2,rfl,q _ (I1.hok.fresh (Ae _))⟩
 · obtain⟨its,r',pl,hz⟩:=I.tuple hq;exact call_tuple_same pl ⟨.ref p,H,I,rfl,q⟩
def Ug(K:Af)(T:String)(x:V)(H:Hp):Prop:=match x with
 | .str _=>T="str"
 | .int _=>T="int"
 | .ref p=>(T="list"∧∃xs,SqL K H p xs)∨(T="tuple"∧∃o,K.lookup p=some o∧o.cls= .type "tuple"∧o.dict=none)∨
  (T="dict"∧((∃kvs,H p=some (.dK kvs))∨∃kvs,H p=some (.dT kvs)))∨(T="set"∧∃S n,H p=some (.set S n))
 | _=>False
theorem Vn{T:String}{x:V}{v:Value}(I:Inv X pins σ H s)(r:RelV x v)(ty:Ug X.K T x H):
 s.TypeIs v T∧∀a,v= .ref a→∃ob,s.heap.get? a=some ob∧ob.dict=none:=by
 cases x with
 | str z=> obtain⟨t,rfl⟩:=r;cases(show T="str" from ty);exact⟨typeIs_str s z t,λ_ e=>nomatch e⟩
 | int i=> obtain⟨t,rfl⟩:=r;cases(show T="int" from ty);exact⟨typeIs_int s i t,λ_ e=>nomatch e⟩
 | ref p=>
  cases r;rcases ty with⟨rfl,xs,hq⟩ | ⟨rfl,o,hk,hc,hd⟩ | ⟨rfl,hk⟩ | ⟨rfl,S,n,hk⟩
  · obtain⟨its,_,pl,_⟩:=I.list hq;refine⟨pl.isList.typeIs,λa e=>?_⟩;cases e;obtain⟨o,n,e,c,hd,_⟩:=pl;exact⟨o,e,hd⟩
  · refine⟨⟨o,I.kIn p o hk,hc⟩,λa e=>?_⟩;cases e;exact⟨o,I.kIn _ o hk,hd⟩
  · have z:∃o,s.heap.get? p=some o∧o.ExactDict:=by
     rcases hk with⟨kvs,hk⟩ | ⟨kvs,hk⟩
     · obtain⟨_,_,_,_,o,_,_,e,ex,_⟩:=I.hok p _ hk;exact⟨o,e,ex⟩
     · obtain⟨_,_,_,_,o,_,_,e,ex,_⟩:=I.hok p _ hk;exact⟨o,e,ex⟩
    obtain⟨o,e,ex⟩:=z;refine⟨⟨o,e,ex.1⟩,λa e2=>?_⟩;cases e2;exact⟨o,e,ex.2.1⟩
  · obtain⟨o,_,_,_,e,ex,_⟩:=I.hok p _ hk;refine⟨⟨o,e,ex.1⟩,λa e2=>?_⟩;cases e2;exact⟨o,e,ex.2.1⟩
 | _=>exact B_ ty
def ZQ(K:Af)(T:String)(r:V→List V→Hp→VK→Prop)(to:TE)(t:TA):TE:=λσ H Q=>to σ H λx H1=>Ug K T x H1∧t σ H1 λxs H2=>r x xs H2 Q
variable{o:Expr}{es:List Expr}{to:TE}{t:TA}{name:Str}{apos cpos:Pos}{T id:String}{r:V→List V→Hp→VK→Prop}
theorem Iw(pa:PlainAttrs T)(slot:Slot T name id)(hty:typeOf (.builtin id)=pure (.type "method_descriptor"))(hm:ZW X id r)(ho:PE X o to)(ha:PA X (e::es) t)
 (hbase:attributeBase o name X.env (eval o X.env)=eval o X.env:=by rfl)
 (hfew:((backTo cpos (A1 (e::es) X.env)).all (λx=>!x.1) && (backToKw cpos (keywordEach [] X.env)).all (λx=>x.1.isSome)
  && decide ((e::es).length+([]:List Keyword).length+(if([]:List Keyword).isEmpty then 0 else 1)<30))=true:=by rfl)
 (hline:(apos.endLine==cpos.line)=true:=by rfl) (hs:A1 (e::es) X.env=(false,eval e X.env)::A1 es X.env:=by rfl) (hplain:(backTo cpos (A1 es X.env)).any (·.1)=false:=by rfl):
 PE X (.Call (.Attribute o name apos) (e::es) [] cpos) (ZQ X.K T r to t):=by
 intro pins s σ H Q I h;refine wpAny_Call_method_late hbase hfew hline rfl (He (ho pins s σ H _ I h) λv s1 ⟨x,H1,I1,r1,ty,q1⟩=>?_);obtain⟨h1,h2⟩:=Vn I1 r1 ty;refine⟨T,id,pa,slot,hty,h1,h2,?_⟩;have hA:=ha cpos pins s1 σ H1 _ I1 q1;rw[hs] at hA ⊢;refine Calls.callWith_builtin (by show(false || (backTo cpos (A1 es X.env)).any (·.1))=false;rw[hplain]<;>rfl) (Calls.evalArgs_plain ?_);exact He hA λus s2 ⟨vs,H2,I2,r2,q2⟩=>hm pins s2 σ H2 x vs v us Q I2 r1 r2 q2
end
def KT(X:Cx)(id:String)(r:V→List V→Hp→VK→Prop):Prop:=
 ∀(pins:List (Addr×Obj))(s:Shared)(σ:St)(H:Hp)(x:V)(xs:List V)(v:Value)(us:List Value)(Q:VK),Inv X pins σ H s→RelV x v→Vals xs us→r x xs H Q→
  wpAny (model X.prog X.w) X.A (call (.builtin id) (v::us)) (EP X pins σ Q) X.xe s
theorem Vals.one:∀{x:V}{us:List Value},Vals [x] us→∃u,us=[u]∧RelV x u
 | _,_,.cons r .nil=>⟨_,rfl,r⟩
theorem Vals.eraseIdx:∀{xs:List V}{us:List Value}(i:Nat),Vals xs us→Vals (xs.eraseIdx i) (us.eraseIdx i)
 | _,_,_,.nil=> .nil
 | _,_,0,.cons _ t=>t
 | _,_,i+1,.cons r t=> .cons r (Vals.eraseIdx i t)
theorem Tz{α:Type}:∀(l:List α)(i:Nat),(l.eraseIdx i).length≤l.length
 | [],_=>Ae _
 | _::_,0=>Dm _
 | _::r,i+1=>Nat.succ_le_succ (Tz r i)
section
variable{l:Addr}{ys zs:List V}
theorem Inv.lset{its its':List Value}{n:Nat}{f:Array Value→Array Value}{t':Nat}(I:Inv X pins σ H s)(hH:H l=some (.lst xs))
 (e:s.heap.get? l=some {cls:= .type "list",data:= .seq its.toArray n}) (hf:f its.toArray=its'.toArray) (hv:Vals ys its') (hz:ys.length≤Ag):
 Inv X pins σ (GZ H l (.lst ys)) {s with heap:=s.heap.update l (CF f),toks:=t'}:=by
 have q:=PySem.IsL.update e f;rw[hf] at q;refine I.write (x:=l) (e:=l) (by rw[hH];exact trivial) (.inl rfl) (λb' u hb hu=>(BJ s.heap (CF f) (By hb)).trans hu) ⟨_,q⟩ ?_;exact⟨hz,its',_,hv,q⟩
theorem Inv.lnew{its:List Value}{t':Nat}(I:Inv X pins σ H s)(hv:Vals ys its)(hz:ys.length≤Ag):
 Inv X pins σ (GZ H s.heap.objs.size (.lst ys)) {s with heap:=s.heap.push {cls:= .type "list",data:= .seq its.toArray},toks:=t'}:=
 I.laid (λ_ _ q=>Ad _ q) (Ae _) ⟨hz,its,0,hv,Aq _ rfl⟩
theorem Inv.fresh(I:Inv X pins σ H s):H s.heap.objs.size=none:=I.hok.fresh (Ae _)
theorem Inv.lstM(I:Inv X pins σ H s)(hH:H l=some (.lst xs)):xs.length≤Ag∧∃(its:List Value)(n:Nat),Vals xs its∧xs.length=its.length∧s.heap.get? l=some {cls:= .type "list",data:= .seq its.toArray n}:=by obtain⟨z,its,n,r,e⟩:=I.hok l _ hH;exact⟨z,its,n,r,r.length,e⟩
theorem SO(h:n≤Ag):EI n=false:=by unfold EI;exact decide_eq_false (by omega)
end
def Wu:V→List V→Hp→VK→Prop:=λx vs H Q=>∃l xs y,x= .ref l∧vs=[y]∧H l=some (.lst xs)∧xs.length<Ag∧Q .non (GZ H l (.lst (xs++[y])))
theorem NJ:KT X "list.append" Wu:=by intro pins s σ H x vs v us Q I rx rv h;obtain⟨l,xs,y,rfl,rfl,hH,hz,q⟩:=h;cases rx;obtain⟨u,rfl,ru⟩:=rv.one;obtain⟨z,its,n,r,hl,e⟩:=I.lstM hH;refine call_meets F.slot_list_append ⟨_,e,rfl⟩ F.entry_list_append (F.args_list_append_2 _ _) (PySem.list_append l its.toArray n u (by rw[Al];omega)) ⟨e,?_⟩;refine⟨.non,_,I.lset (its':=its++[u]) hH e (by simp) (r.append (.cons ru .nil)) ?_,rfl,q⟩;rw[A3,DM];omega
def VD:V→List V→Hp→VK→Prop:=λx vs H Q=>∃l xs i k y,x= .ref l∧vs=[.int i]∧H l=some (.lst xs)∧ -(2^63)≤i∧i<2^63∧seqIndex? i xs.length=some k∧xs[k]?=some y∧Q y (GZ H l (.lst (xs.eraseIdx k)))
theorem SM:KT X "list.pop" VD:=by
 intro pins s σ H x vs v us Q I rx rv h;obtain⟨l,xs,i,k,y,rfl,rfl,hH,h1,h2,hk,hy,q⟩:=h;cases rx;obtain⟨u,rfl,ru⟩:=rv.one;obtain⟨t,rfl⟩:=ru;obtain⟨z,its,n,r,hl,e⟩:=I.lstM hH;obtain⟨w,hw,rw'⟩:=r.get hy;refine call_meets F.slot_list_pop ⟨_,e,rfl⟩ F.entry_list_pop (F.args_list_pop_2 _ _)
  (MeetsSeq.list_pop_at l its.toArray n i t k w (fitsIndex_both h1 h2) (by rw[Al,←hl];exact hk) (by rw[←BN];exact hw) (by rw[Al];omega)) ⟨e,?_⟩
 refine⟨y,_,I.lset (its':=its.eraseIdx k) hH e ?_ (r.eraseIdx k) ?_,rw',q⟩
 · show its.toArray.eraseIdxIfInBounds k=(its.eraseIdx k).toArray;rw[List.eraseIdxIfInBounds_toArray]
 · have:=Tz xs k;omega
def Qg:R2:=λx y H Q=>∃l b xs zs,x= .ref l∧y= .ref b∧H l=some (.lst xs)∧H b=some (.lst zs)∧xs.length+zs.length≤Ag∧∀p,H p=none→Q (.ref p) (GZ H p (.lst (xs++zs)))
theorem Rw:HQ X (binaryOp .Add) Qg:=by
 intro pins s σ H x y v u Q I rx ry h;obtain⟨l,b,xs,zs,rfl,rfl,hH,hB,hz,q⟩:=h;cases rx;cases ry;obtain⟨z,its,n,r,hl,e⟩:=I.lstM hH;obtain⟨z2,its2,n2,r2,hl2,e2⟩:=I.lstM hB;refine PySem.P.add_list e e2 ?_ (by rw[Al,Al];omega);have ea:its.toArray++its2.toArray=(its++its2).toArray:=by simp
 rw[ea];exact⟨.ref _,_,I.lnew (t':=s.toks) (r.append r2) (by rw[A3];omega),rfl,q _ I.fresh⟩
theorem XO{a c:Nat}(hac:a≤c)(hc:c≤n):sliceBounds (some (a:Int)) (some (c:Int)) none n=((a:Int),(c:Int),1):=by
 simp only[sliceBounds,EH];have h1:¬((a:Int)<0):=by omega
 have h2:¬((c:Int)<0):=by omega
 simp only[h1,h2,if_false,show(1:Int)>0 by decide,if_true];congr 1
 · omega
 · congr 1;omega
set_option maxRecDepth 100000 in
theorem Kj{l b sl:Addr}{items new:Array Value}{n n2:Nat}{vl vu:Value}{a c:Nat}{Q:Unit→Shared→Prop}
 (e:s.heap.get? l=some {cls:= .type "list",data:= .seq items n}) (e2:s.heap.get? b=some {cls:= .type "list",data:= .seq new n2}) (hne:l≠b)
 (hs:s.heap.IsSliceOf sl vl vu .none) (pl:IsPart vl (some (a:Int))) (pu:IsPart vu (some (c:Int))) (hac:a≤c) (hc:c≤items.size)
 (hsz:items.size+new.size≤Ag) (h:Q () {s with heap:=s.heap.update l (CF λxs=>xs.extract 0 a++new++xs.extract c xs.size)}):
 wpAny (model prog w) A (setItem (.ref l) (.ref sl) (.ref b)) Q E s:=by
 have hl:s.heap.IsList l items:=PySem.IsL.isList e;have hb:s.heap.IsList b new:=PySem.IsL.isList e2;obtain⟨os,hos,hcs,hds⟩:=id hs;have hTs:s.TypeIs (.ref sl) "slice":=⟨os,hos,hcs⟩;have hstep:¬((rawPart none==rawInt 0)=true):=Aw;have hsame:CN (.ref l) (.ref b)=false:=by unfold CN;exact beq_eq_false_iff_ne.mpr hne
 have hmax:(max (a:Int) (c:Int)).toNat=c:=by omega
 have hz':((λxs:Array Value=>xs.extract 0 a++new++xs.extract c xs.size) items).size≤Ag+1:=by simp only[E9,Array.size_extract];omega
 unfold setItem
 try with_reducible refine Bn ?_
 first | refine Aa (Ac ?_) | skip
 refine Aa (E8 hl.typeIs (by decide) ?_);refine Aa (Be (name:=BZ "__setitem__") hl.typeIs slot_list_setitem
  (AZ slot_list_setitem hl.typeIs entry_list_setitem ?_ (args_list_setitem _ _ _)))
 show wpAny _ _ (Es (.ref sl)>>=_) _ _ s;refine Aa ?_;unfold Es;refine Aa (wpAny_specialOf hTs slice_no_index ?_);simp only[Option.isNone_none,if_true];refine Ac ?_;show wpAny _ _ (typeOf (.ref sl)>>=_) _ _ s;refine Aa (CL hTs ?_)
 first
  | rw[if_neg (by decide)]
  | refine Et (by decide) ?_
 rw[listSliceParts_eq];refine Aa (Aa (AV hos hds (x:= .none) rfl (Aa (Fp .none ?_))));rw[if_neg hstep];refine Aa (AV hos hds (x:=vl) rfl (Aa (Fp pl ?_)));refine Aa (AV hos hds (x:=vu) rfl (Aa (Fp pu (Ac ?_))))
 first
  | simp only[hsame,Cv,if_false]
  | refine Et hsame ?_
  | (dsimp only
     rw[if_neg (by rw[hsame];exact Aw)])
 refine Aa (m:=ED (.ref b) "must assign iterable to extended slice") ?_;unfold ED;refine Aa (CL hb.typeIs ?_)
 first
  | refine PySem.W.KFB.if_so (by decide) ?_
  | rw[if_pos (by decide)]
  | simp only[beq_self_eq_true,Bool.true_or,if_true]
 unfold Builtin.List.listItems;refine Aa (B0 e2 rfl (Ac ?_));refine Aa (Aa (B0 e rfl (Ac ?_)));refine Aa (Ff ((sliceIndices_raw (some (a:Int)) (some (c:Int)) none items.size (by simp)).trans (congrArg (pure:Int×Int×Int→Sem (Int×Int×Int)) (XO hac hc))) ?_);show wpAny _ _ (if((1:Int)==1)=true then _ else _) _ _ s
 rw[if_pos (by decide)];refine Aa (Dg ?_)
 first
  | simp only[SO hsz,Cv,if_false]
  | refine Et (SO hsz) ?_
 first | refine Aa (Ac ?_) | skip
 show wpAny _ _ (updateSeq l (λxs=>xs.extract 0 ((a:Int)).toNat++new++xs.extract (max (a:Int) (c:Int)).toNat xs.size)>>=_) _ _ s;rw[hmax,AI];refine Aa (EZ (hz:=A8 (Dh _ _) hsz) (_hz':=hz') e rfl ?_);refine Aa (Fg ?_)
 first
  | exact Aa (Ac (Ac ⟨.none,rfl,Ac h⟩))
  | exact Ac ⟨.none,rfl,Ac h⟩
section
variable{κ:Type}[DecidableEq κ]
def Jp(kvs:List (κ×V))(k:κ)(v:V):List (κ×V):=
 if(kvs.any λkv=>decide (kv.1=k))=true then kvs.map (λkv=>if kv.1=k then(kv.1,v) else kv) else kvs++[(k,v)]
theorem Y_(kvs:List (κ×V))(k:κ)(v:V):(Jp kvs k v).length≤kvs.length+1:=by
 unfold Jp
 split
 · rw[Ab];omega
 · rw[A3,Ax,DT];omega
theorem KV.any{kvs:List (κ×V)}{vs:List (κ×Value)}(r:KV kvs vs)(k:κ):(kvs.any λkv=>decide (kv.1=k))=vs.any λkv=>decide (kv.1=k):=by
 unfold KV at r
 induction r with
 | nil=>rfl
 | cons h t ih=>rw[Dk,Dk,ih,h.1]
theorem KV.repl{kvs:List (κ×V)}{vs:List (κ×Value)}(r:KV kvs vs)(k:κ){y:V}(ry:RelV y u):
 KV (kvs.map λkv=>if kv.1=k then(kv.1,y) else kv) (vs.map λkv=>if kv.1=k then(kv.1,u) else kv):=by
 unfold KV at r ⊢
 induction r with
 | nil=>exact .nil
 | @cons p q ps qs h t ih=>
  rw[A7,A7];refine .cons ?_ ih;obtain⟨h1,h2⟩:=h;by_cases e:p.1=k
  · rw[if_pos e,if_pos (h1.symm.trans e)];exact⟨h1,ry⟩
  · rw[if_neg e,if_neg (λz=>e (h1.trans z))];exact⟨h1,h2⟩
theorem KV.put{kvs:List (κ×V)}{vs:List (κ×Value)}(r:KV kvs vs)(k:κ){y:V}(ry:RelV y u):KV (Jp kvs k y) (stored vs k u):=by
 unfold Jp stored;rw[r.any k];by_cases e:(vs.any λkv=>decide (kv.1=k))=true
 · rw[if_pos e,if_pos e];exact r.repl k ry
 · rw[if_neg e,if_neg e];exact Paired.snoc r ⟨rfl,ry⟩
theorem KV.length{kvs:List (κ×V)}{vs:List (κ×Value)}(r:KV kvs vs):kvs.length=vs.length:=Paired.length r
end
theorem UO{k:HP}(r:RelV (kV k) u):(Ke P w).is k u=true:=by
 cases k with
 | inl i=>obtain⟨t,e⟩:=(show ∃t,u=Value.int i t from r);subst e;exact Zb P w i t
 | inr x=>obtain⟨t,e⟩:=(show ∃t,u=Value.str x t from r);subst e;exact YC P w x t
theorem Va{u:HO}(ok:HOk P w H h)(e:Rd H a u):ObjOk P w H h a u:=e.ok ok
theorem UG{kvs:List (HP×V)}(ok:HOk P w H h)(e:Rd H a (.dK kvs)):kvs.length≤Ag∧(a==BI)=false∧∃vs,KV kvs vs∧h.DictOf (Ke P w) a vs:=
 show ObjOk P w H h a (.dK kvs) from Va ok e
theorem JB{kvs:List (HP×V)}(ok:HOk P w H h)(e:H a=some (.dK kvs)):kvs.length≤Ag∧(a==BI)=false∧∃vs,KV kvs vs∧h.DictOf (Ke P w) a vs:=UG ok (.inl e)
section
variable{y v:V}{r:Value}{o:Option V}
theorem Inv.big(I:Inv X pins σ H s):BI<s.heap.objs.size:=by have h:Ak<s.heap.objs.size:=(I.mod.glob.keeps I.bk).lt;exact BA (by decide) h
theorem Vw{h':Heap}{t':Nat}{ob:HO}(I:Inv X pins σ H s)(mu:M_ (H a))(hs:BO a s.heap h')(he:∃q,h'.get? a=some q)(new:ObjOk X.prog X.w (GZ H a ob) h' a ob):
 Inv X pins σ (GZ H a ob) {s with heap:=h',toks:=t'}:=
 I.write (x:=a) (e:=a) mu (.inl rfl) (λb q hb z=>(hs.2 b hb).trans z) he new
theorem U7{H':Hp}{h':Heap}{kvs:List (HP×V)}{vs:List (HP×Value)}(z:kvs.length≤Ag)(hd:(a==BI)=false)(rel:KV kvs vs)(dd:h'.DictOf (Ke P w) a vs):
 ObjOk P w H' h' a (.dK kvs):=⟨z,hd,vs,rel,dd⟩
end
section
variable{kvs:List (HP×V)}{k:HP}
end
section
variable{o i value:Expr}{pos' tpos:Pos}{td ty tv:TE}
end
theorem SE(h:Heap)(hb:BI<h.objs.size):ObjOk P w H (h.push {cls:= .type "dict",data:= .dict #[]}) h.objs.size (.dK []):=
 ⟨AX _,beq_eq_false_iff_ne.mpr (By (As hb)),[],.nil,Heap.DictOf.new h⟩
def Vj:TE:=λ_ H Q=>∀p,H p=none→Q (.ref p) (GZ H p (.dK []))
theorem WJ:PE X (.Dict [] [] pos) Vj:=λpins s σ H Q I h=> wpAny_Dict_empty ⟨.ref s.heap.objs.size,_,I.laid (a:=s.heap.objs.size) (o:= .dK []) (t':=s.toks) (λ_ _ q=>Ad _ q) (Ae _) (SE s.heap I.big),rfl,h _ (I.hok.fresh (Ae _))⟩
def O4:List (TE×TE)→St→Hp→(List (V×V)→Hp→Prop)→Prop
 | [],_,H,Q=>Q [] H
 | (tk,tv)::r,σ,H,Q=>tk σ H λx H1=>tv σ H1 λy H2=>O4 r σ H2 λps H3=>Q ((x,y)::ps) H3
abbrev VV:List (V×V)→List (Value×Value)→Prop:=Paired λp q=>RelV p.1 q.1∧RelV p.2 q.2
def Oj(X:Cx)(pos:Pos)(keys:List (Option Expr))(values:List Expr)(trs:List (TE×TE)):Prop:=
 ∀(pins:List (Addr×Obj))(s:Shared)(σ:St)(H:Hp)(Q:List (V×V)→Hp→Prop),Inv X pins σ H s→O4 trs σ H Q→
  wpAny (model X.prog X.w) X.A (evalPairs (pairTrees keys values X.env pos)) (λvs s'=>∃ps H',Inv X pins σ H' s'∧VV ps vs∧Q ps H') X.xe s
theorem Wt:Oj X pos [] [] []:=λpins s σ H Q I h=>pairTrees_nil_walk ⟨[],H,I,.nil,h⟩
theorem WN{k v:Expr}{ks:List (Option Expr)}{vs:List Expr}{tk tv:TE}{trs:List (TE×TE)}(hk:PE X k tk)(hv:PE X v tv)(hr:Oj X pos ks vs trs):
 Oj X pos (some k::ks) (v::vs) ((tk,tv)::trs):=λpins s σ H Q I h=>
 pairTrees_cons_walk (He (hk pins s σ H _ I h) λu s1 ⟨x,H1,I1,rx,q1⟩=>He (hv pins s1 σ H1 _ I1 q1) λw2 s2 ⟨y,H2,I2,ry,q2⟩=> He (hr pins s2 σ H2 _ I2 q2) λws s3 ⟨ps,H3,I3,rel,q3⟩=>⟨(x,y)::ps,H3,I3,.cons ⟨rx,ry⟩ rel,q3⟩)
def Li(kvs more:List (HP×V)):List (HP×V):=more.foldl (λacc kv=>Jp acc kv.1 kv.2) kvs
theorem KV.merge:∀{more:List (HP×V)}{rs:List (HP×Value)}{kvs:List (HP×V)}{vs:List (HP×Value)},KV more rs→KV kvs vs→KV (Li kvs more) (merged vs rs):=by
 intro more rs kvs vs r;unfold KV at r
 induction r generalizing kvs vs with
 | nil=>intro q;exact q
 | @cons p q ps qs h t ih=>
  intro r0;have e:KV (Jp kvs p.1 p.2) (stored vs q.1 q.2):=by have:=r0.put p.1 h.2;rw[←h.1];exact this
  exact ih e
theorem Ud:∀(more kvs:List (HP×V)),(Li kvs more).length≤kvs.length+more.length
 | [],kvs=>by show kvs.length≤kvs.length+0;omega
 | p::r,kvs=>by have h1:=Ud r (Jp kvs p.1 p.2);have h2:=Y_ kvs p.1 p.2;show(Li (Jp kvs p.1 p.2) r).length≤_;rw[Ax];omega
theorem TN:∀{kvs:List (HP×V)}{ws:List (Value×Value)},VV (kvs.map λkv=>(kV kv.1,kv.2)) ws→∃rs,Carries (Ke P w) ws rs∧KV kvs rs
 | [],_,r=>by rw[CO] at r;cases r;exact⟨[],True.intro,.nil⟩
 | p::kvs,_,r=>by
  rw[A7] at r;cases r with
  | @cons a b as bs h t=> obtain⟨rs,c,q⟩:=TN t;obtain⟨b1,b2⟩:=b;exact⟨(p.1,b2)::rs,⟨UO h.1,rfl,c⟩,.cons ⟨rfl,h.2⟩ q⟩
def Us(trs:List (TE×TE)):TE:=λσ H Q=>∀p,H p=none→O4 trs σ (GZ H p (.dK [])) λps H2=>H2 p=some (.dK [])∧∃kvs:List (HP×V),ps=kvs.map (λkv=>(kV kv.1,kv.2))∧kvs.length≤15∧Q (.ref p) (GZ H2 p (.dK (Li [] kvs)))
theorem Wr{keys:List (Option Expr)}{values:List Expr}{trs:List (TE×TE)}(h:Oj X pos keys values trs)(hall:keys.all (·.isSome)=true)(hl:keys.length=values.length)(h0:keys≠[])
 (h15:keys.length≤15):PE X (.Dict keys values pos) (Us trs):=by
 intro pins s σ H Q I q;have hn:=I.hok.fresh (Ae s.heap.objs.size);have I1:=I.laid (a:=s.heap.objs.size) (o:= .dK []) (h':=s.heap.push {cls:= .type "dict",data:= .dict #[]}) (t':=s.toks) (λ_ _ q=>Ad _ q) (Ae _) (SE s.heap I.big);refine wpAny_Dict_walk (knd:=Ke X.prog X.w) hall hl h0 h15 (He (h pins _ σ _ _ I1 (q _ hn)) λws s2 ⟨ps,H2,I2,rel,e,kvs,ep,lk,q2⟩=>?_);subst ep;obtain⟨rs,c,rk⟩:=TN (P:=X.prog) (w:=X.w) rel;obtain⟨z,hd,vs0,r0,dd⟩:=JB I2.hok e;cases r0;refine⟨rs,c,dd,λh' dd' hs=>⟨.ref s.heap.objs.size,_,?_,rfl,q2⟩⟩;have hz:(Li [] kvs).length≤Ag:=by have h1:=Ud kvs [];rw[DT] at h1;rw[sizeLine_eq];omega
 have he:∃q,h'.get? s.heap.objs.size=some q:=let⟨q,_,_,hq,_⟩:=dd';⟨q,hq⟩;exact Vw I2 (by rw[e];exact True.intro) hs he (U7 hz hd (rk.merge .nil) dd')
structure M1(X:Cx)(o:Expr)(m:Str)(apos:Pos)(e:Expr)(cpos:Pos):Prop where
 base:attributeBase o m X.env (eval o X.env)=eval o X.env
 few:((backTo cpos (A1 [e] X.env)).all (λx=>!x.1) && (backToKw cpos (keywordEach [] X.env)).all (λx=>x.1.isSome)
  && decide (([e]:List Expr).length+([]:List Keyword).length+(if([]:List Keyword).isEmpty then 0 else 1)<30))=true
 line:(apos.endLine==cpos.line)=true
 trees:backTo cpos (A1 [e] X.env)=[(false,eval e X.env)]
section
variable{y d:V}{r:Value}{o:Option V}
end
section
variable{o f:Expr}{apos cpos:Pos}{td ty tx:TE}
end
section
variable{kvs:List (HP×V)}
end
section
variable{y:V}
end
end L2
namespace Att
open PySem PySem.W PySem.Calls PyProof.Rows
theorem ZJ{P:Params}:∀(ns:List Int)(vs:List Value),WellAll P h vs (ns.map WData.int)→IntsAre vs ns:=by
 intro ns
 induction ns with
 | nil=> intro vs w;rw[CO] at w;cases w;exact .nil
 | cons n ns ih=>
  intro vs w;rw[A7] at w;cases w with
  | cons a b=> cases a;exact .cons _ _ (ih _ b)
theorem Yd{l:OpenLaw}(hn:l.most=some n){P:Params}{h:Heap}{args:List WData}{vals:List Value}
 (hpre:l.row.toRowW.claim.pre args=true) (hwl:WellAll P h vals args):
 ∃a vs ns,vals=[Value.ref a]∧args=[WData.list (ns.map WData.int)]∧h.get? a=some {cls:= .type "list",data:= .seq vs.toArray}∧IntsAre vs ns∧ns.length≤n:=by
 have hsh:WShape.hasAll [] args [.list .int]=true:=(pre_splitW hpre).1;have hc:l.pre.holds [] {args:=args}=true:=(pre_splitW hpre).2;obtain⟨d,r,rfl,h1,h2⟩:=hasAllW_cons hsh;obtain rfl:=hasAllW_nil h2;obtain⟨xs,rfl,h3⟩:=hasW_list h1;obtain⟨ns,rfl⟩:=items_int h3;have hlen:ns.length≤n:=by
  unfold OpenLaw.pre at hc;have h4:(WTm.not (.lt (.lit (.int (n:Int))) (.len (.arg 0)))).holds [] {args:=[.list (ns.map .int)]}=true:=by have h4:=(holds_andW hc).1;rw[hn] at h4;exact h4
  have h5:=condW_of h4 (w_not (w_lt w_lit (w_len_list (w_arg rfl))));rw[Ab] at h5;refine Nat.le_of_not_lt λq=>?_;have q':(n:Int)<((ns.length:Nat):Int):=by omega
  first
   | (rw[decide_eq_true q'] at h5;exact absurd h5 (by decide))
   | (simp at h5;omega)
 cases hwl with
 | cons w1 w2=>
  cases w2;cases w1 with
  | list ho hall=>exact⟨_,_,ns,rfl,rfl,ho,ZJ ns _ hall,hlen⟩
theorem Yl(l:OpenLaw)(args:List WData):l.row.toRowW.claim.post args (.bool true) args=true:=
 postW_of (r:=l.row.toRowW) (X:=(true==true))
  (show WShape.has [] (.bool true) .bool=true by first | rfl | decide | simp[WShape.has,WShape.arms,WShape.armsAll])
  (show(WTm.eq .res (.lit (.bool true))).value [] {args:=args,res:=some (.bool true),after:=args}=some (.bool (true==true)) from w_eq_bool (w_res rfl) w_lit) rfl
theorem attach_call{l:OpenLaw}{n:Nat}{q:Bk}{loose:List Str}{XP:(Str→Option Value)→Heap→Prop}{YP:World→Heap→Prop}{d:DefRec}
 (hn:l.most=some n) (hdf:d.params.defaults=[])
 (call:∀(w:World)(s₀ s₁:Shared)(mg mb:Str→Option Value)(fa:Addr)(o:Obj)(pm cd doc:Value)(a:Addr)(vs:List Value)(ns:List Int),
  Ground q loose [] XP w s₀ mg mb s₁.heap→YP w s₁.heap→
  s₁.heap.get? fa=some o→o.data= .func (docDef d.name d.params d.body d.scope pm cd doc)→s₁.heap.CodeRec cd d.name→mg d.name=some (.ref fa)→
  s₁.heap.get? a=some {cls:= .type "list",data:= .seq vs.toArray}→IntsAre vs ns→ns.length≤n→s₁.gens=#[]→
  codeAny (model l.prog w) callerA (.call (.ref fa) ⟨[.ref a],[]⟩) (λr s'=>r= .ok (.ret (.bool true))∧OldK s₁.heap s'.heap∧s'.os=s₁.os∧AllBare s'.gens) s₁):
 WalkO q loose XP YP l.row.toRowW d [] (λf vs=>PySem.call f vs):=by
 intro w s₀ s₁ mg mb G Y fa o pm cd doc dV kV ho hd hcd hD hmg hg args vals as hpre hlay hrd hwl hlo;obtain rfl:dV= .none:=Dflts.none hD hdf;obtain rfl:kV= .none:=Dflts.noKw hD;obtain⟨a,vs,ns,rfl,rfl,hobj,hints,hlen⟩:=Yd hn hpre hwl;refine enter_call (Ch (call w s₀ s₁ mg mb fa o pm cd doc a vs ns G Y ho (fd_plain hd) hcd hmg hobj hints hlen hg) λr s' hq=>?_);obtain⟨rfl,h2,h3,h4⟩:=hq;exact⟨.inl ⟨.bool true,.bool true,[],rfl,λ_=>rfl,.bool true,Yl l _,λ_=>⟨List.Pairwise.nil,λ_ hm=>(nomatch hm)⟩⟩,h2,h3,h4⟩
section
variable{K:Frag}
end
end Att
namespace L2
theorem Tw:∀{vs:List Value}{ns:List Int},IntsAre vs ns→Vals (ns.map V.int) vs
 | _,_,.nil=> .nil
 | _,_,.cons n t h=> .cons ⟨t,rfl⟩ (Tw h)
def L8(H:Hp):Prop:=∀b,H b=none∨∃o xs,H b=some (.frz o (.lst xs))
theorem WC{P:Bk}{w:World}{K:Af}{mg mb:Str→Option Value}{CX:JR}{k:Nat}{fa a:Addr}{fd:Bf}{x:Str}{sp:Sp}{s₁:Shared}{vs:List Value}{ns:List Int}
 (KX:K.In s₁.heap) (hns:s₁.heap.Ns Ak mg) (hb:s₁.heap.Ns builtinsNs mb) (hbb:∀x:Str,x≠"__name__"→mb x=AO x) (hlim:s₁.heap.NoLimit) (hg:s₁.gens=#[])
 (ha:s₁.heap.get? a=some {cls:= .type "list",data:= .seq vs.toArray}) (hi:IntsAre vs ns) (hl:ns.length≤Ag) (hr:Room k callerA)
 (F:∀base:Heap,K.In base→base.Ns Ak mg→FnOk P w K mg base CX k fa fd [x] sp) (hbind:∀(s:Shared)(u:Value),BindsTo s fd ⟨[u],[]⟩ [(x,u)])
 (hsp:∀H:Hp,L8 H→SqL K H a (ns.map V.int)→sp [.ref a] H (λv _=>v= .bl true) λ_ _ _=>False)
 (hCX:∀H e s',CX [] H s₁ (λ_ _ _=>False) e s'→False):
 codeAny (model P w) callerA (.call (.ref fa) ⟨[.ref a],[]⟩) (λr s'=>r= .ok (.ret (.bool true))∧OldK s₁.heap s'.heap∧s'.os=s₁.os∧AllBare s'.gens) s₁:=by
 have rv:=Tw hi;have lenV:=hi.length;have core:∀H:Hp,L8 H→SqL K H a (ns.map V.int)→HOk P w H s₁.heap→(∀b,H b≠none→b=a)→(H a≠none→K.lookup a=none)→
  codeAny (model P w) callerA (.call (.ref fa) ⟨[.ref a],[]⟩) (λr s'=>r= .ok (.ret (.bool true))∧OldK s₁.heap s'.heap∧s'.os=s₁.os∧AllBare s'.gens) s₁:=by
  intro H hO hS hok hA hK;have base_of:∀{b:Addr}{o:Obj},s₁.heap.get? b=some o→H b=none→(Jf s₁.heap H).get? b=some o:=λe n=>Xi e n;have noA:∀{b:Addr}{o:Obj}{es:Array DictEntry}{ep:Nat},s₁.heap.get? b=some o→o.data= .dict es ep→H b=none:=λ{b o es ep}e d=>by
   cases q:H b with
   | none=>rfl
   | some u=> have e':b=a:=hA b (by rw[q];simp);subst e';rw[ha] at e;cases e;have d':Data.seq vs.toArray _=Data.dict es ep:=d;cases d'
  have nsK:∀{b:Addr}{m:Str→Option Value},s₁.heap.Ns b m→(Jf s₁.heap H).Ns b m:=λ{b m} ⟨o,es,ep,e,d,r⟩=>⟨o,es,ep,base_of e (noA e d),d,r⟩;have hKb:K.In (Jf s₁.heap H):=λb o e=>base_of (KX b o e) (by
   cases q:H b with
   | none=>rfl
   | some u=> have e':b=a:=hA b (by rw[q];simp);subst e';rw[hK (by rw[q];simp)] at e;cases e)
  have hM:Mod K mg (Jf s₁.heap H):=⟨hKb,nsK hns,⟨mb,nsK hb,hbb⟩,let⟨mc,h1,h2⟩:=hlim;⟨mc,nsK h1,h2⟩⟩;have e0:Env0 P w K mg (Jf s₁.heap H) callerA [] s₁ H:=⟨rfl,hM,λb o e=>Wn e,Nat.le_of_eq (X4 _ _),trivial,λb hb=>absurd (show b∈([]:List Addr) from hb) (by simp),hok,.of_eq hg⟩;refine Ch ((F _ hKb (nsK hns)).run callerA [] s₁ H ⟨[.ref a],[]⟩ [.ref a] [.ref a] _ _ hr e0 (hbind s₁ (.ref a)) (.cons rfl .nil) (hsp H hO hS)) λr s' h=>?_;cases r with
  | error e=>exact(hCX H e s' h).elim
  | ok fl=>
   cases fl with
   | next=>exact B_ h
   | brk=>exact B_ h
   | cont=>exact B_ h
   | ret u=>
    obtain⟨v,H',os,bare,un,hok',r',q⟩:=h;have q':v= .bl true:=q;subst q';obtain rfl:u=Value.bool true:=r';refine⟨rfl,OldK.of_keep λb o e=>?_,os,bare⟩;cases q:H b with
    | none=>exact un.keep b o e q (by intro z;exact absurd (show b∈([]:List Addr) from z) (by simp)) (by simp)
    | some u=>
     rcases hO b with z | ⟨ob,xs,z⟩
     · rw[q] at z;cases z
     · have z2:=un.frzs b ob _ z;obtain⟨e1,_⟩:=hok b _ z;obtain⟨e2,_⟩:=hok' b _ z2;rw[e] at e1;cases e1;exact e2
 cases hk:K.lookup a with
 | some o=> have e:=KX a o hk;rw[ha] at e;cases e;refine core (λ_=>none) (λ_=> .inl rfl) (.inr ⟨_,vs.toArray,_,hk,rfl,rfl,rfl,by rw[Al,lenV];exact hl,by simpa using rv⟩) (λb u z=>by have z':(none:Option HO)=some u:=z;cases z') (λb z=>absurd rfl z) λz=>absurd rfl z
 | none=>
  refine core (λb=>if b=a then some (.frz {cls:= .type "list",data:= .seq vs.toArray} (.lst (ns.map V.int))) else none) (λb=>?_) (.inl (.inr ⟨{cls:= .type "list",data:= .seq vs.toArray},if_pos rfl⟩)) (λb u z=>?_) (λb z=>?_) λ_=>hk
  · by_cases hb:b=a
    · exact .inr ⟨_,_,if_pos hb⟩
    · exact .inl (if_neg hb)
  · by_cases hb:b=a
    · have z':=(if_pos hb).symm.trans z;cases z';subst hb;exact⟨ha,by rw[Ab];exact hl,vs,_,rv,ha⟩
    · have z':=(if_neg hb).symm.trans z;cases z'
  · by_cases hb:b=a
    · exact hb
    · exact absurd (if_neg hb) z
abbrev KOf{K:Af}{h:Heap}(_:K.In h):Af:=K
theorem walk_of{l:E_}{n k:Nat}{q:Bk}{loose:List Str}{XP:(Str→Option Value)→Heap→Prop}{YP:World→Heap→Prop}{d:DefRec}{K:Params→Af}{CX:World→JR}{sp:World→Sp}{x:Str}
 (hn:l.most=some n) (hn2:n≤Ag) (hdf:d.params.defaults=[]) (hr:Room k callerA)
 (hY:∀(w:World)(h:Heap),YP w h→(K w.params).In h)
 (F:∀(w:World)(mg:Str→Option Value)(fa:Addr)(h:Heap),(K w.params).In h→h.Ns Ak mg→mg d.name=some (.ref fa)→
  ∃fd:Bf,(∀(s:Shared)(u:Value),BindsTo s fd ⟨[u],[]⟩ [(x,u)])∧
   ∀base:Heap,(K w.params).In base→base.Ns Ak mg→FnOk l.prog w (K w.params) mg base (CX w) k fa fd [x] (sp w))
 (hsp:∀(w:World)(H:Hp)(a:Addr)(ns:List Int),ns.length≤n→L8 H→SqL (K w.params) H a (ns.map V.int)→sp w [.ref a] H (λv _=>v= .bl true) λ_ _ _=>False)
 (hCX:∀(w:World)(H:Hp)(s:Shared)(e:Value)(s':Shared),CX w [] H s (λ_ _ _=>False) e s'→False):
 PySem.W.WalkO q loose XP YP l.row.toRowW d [] (λf vs=>PySem.call f vs):=by
 refine Att.attach_call hn hdf λw s₀ s₁ mg mb fa o pm cd doc a vs ns G Y ho hd hcd hmg hobj hints hlen hg=>?_;have KX:=hY w _ Y;obtain⟨fd,hb,hF⟩:=F w mg fa _ KX G.T.g hmg;exact WC KX G.T.g G.T.b G.T.builtins G.T.nolimit hg hobj hints (A8 hlen hn2) hr hF hb (λH hO hS=>hsp w H a ns hlen hO hS) λH e s'=>hCX w H s₁ e s'
def Kd(s:Stmt):Arguments:=match s with
 | .FunctionDef _ a _ _ _ _ _ _ _ _=>a
 | _=>{posonlyargs:=[],args:=[],vararg:=none,kwonlyargs:=[],kw_defaults:=[],kwarg:=none,defaults:=[]}
def Ji(s:Stmt):List Stmt:=match s with
 | .FunctionDef _ _ b _ _ _ _ _ _ _=>b
 | _=>[]
def Hg(s:Stmt):Scope:=match s with
 | .FunctionDef _ _ _ _ _ _ sc _ _ _=>sc
 | _=>{kind:= .function,names:=[],isGenerator:=false,isCoroutine:=false}
abbrev HH:JR:=λ_ _ _ _ _ _=>False
abbrev E0:XK:=λ_ _ _=>False
theorem UW:Nm HH X E0:=λ_ _ _ _ _ _ _ h=>h.elim
structure Fun(K:Af)(x qual:Str)(st:Stmt)(f:Addr)(fd:Bf):Prop where
 ex:∃(oc:Value)(od:Option Addr)(kV doc pm:Value)(an:Option Addr)(cdv ct:Value)(osl:Array (Option Value)),
  fd=CJ x qual (Kd st) (Ji st) (Hg st) .none kV doc pm an cdv ct∧K.lookup f=some ⟨oc,od,.func fd,osl⟩∧El K cdv qual=true
 kp:Cp K (.ref f)=true
section
variable{mg:Str→Option Value}{base:Heap}
theorem Fun.ok{qual:Str}{st:Stmt}{f:Addr}{fd:Bf}{N ps:List Str}{k:Nat}{sp:Sp}(F:Fun K x qual st f fd)(S:FnScope N ps (Hg st))(len:∀vs H Q E,sp vs H Q E→vs.length=ps.length)
 (hbody:∀(cdv:Value)(A:Bq)(outer:List Env)(s:Shared)(H:Hp)(vs:List V)(Q:VK)(E:XK),Room k (A.deeper (envOfC qual (Hg st) s.heap.objs.size f cdv))→sp vs H Q E→
  ∃t,PSs (Ic HH P w K mg base N qual (Hg st) f cdv A outer s H E).nox (Ji st) t∧t {nx:=λ_ H'=>Q .non H',rt:=Q} (Kk N vs) H):FnOk P w K mg base HH (k+1) f fd ps sp:=by
 obtain⟨oc,od,kV,doc,pm,an,cdv,ct,osl,rfl,lk,hcd⟩:=F.ex;refine QB lk hcd S len λA outer s H vs Q E hr hsp=>?_;obtain⟨t,h,q⟩:=hbody cdv A outer s H vs Q E hr hsp;exact⟨t,h.nox,q⟩
theorem Fun.binds{qual:Str}{st:Stmt}{f:Addr}{fd:Bf}{ps:List Str}(F:Fun K x qual st f fd)
 (h:∀(kV doc pm:Value)(an:Option Addr)(cdv ct:Value)(us:List Value),us.length=ps.length→bindArgs (CJ x qual (Kd st) (Ji st) (Hg st) .none kV doc pm an cdv ct) ⟨us,[]⟩=pure (ps.zip us)):Binds K fd ps []:=by
 obtain⟨oc,od,kV,doc,pm,an,cdv,ct,osl,rfl,lk,hcd⟩:=F.ex;exact .all (h kV doc pm an cdv ct)
theorem fun_mk{qual:Str}{st:Stmt}{f:Addr}{oc:Value}{od an:Option Addr}{osl:Array (Option Value)}{kV doc pm cdv ct:Value}(l:K.lookup f=some ⟨oc,od,.func (CJ x qual (Kd st) (Ji st) (Hg st) .none kV doc pm an cdv ct),osl⟩)
 (c:El K cdv qual=true) (k:Cp K (.ref f)=true):Fun K x qual st f (CJ x qual (Kd st) (Ji st) (Hg st) .none kV doc pm an cdv ct):=⟨⟨oc,od,kV,doc,pm,an,cdv,ct,osl,rfl,l,c⟩,k⟩
end
theorem Il(h:n≤5000):n<Ag:=Nat.lt_of_le_of_lt h (by decide)
theorem pv(i:Nat){pos:Pos}(hN:X.N[i]?=some x:=by rfl)(hv:Og X.env.scope x:=by first | exact Or.inl rfl | exact Or.inr (Or.inl rfl) | exact Or.inr (Or.inr rfl))(hd:(x==("__debug__":Str))=false:=by decide)
 (hcd:(x==("__classdict__":Str))=false:=by decide):PE X (.Name x pos) (Ia i):=VA hN hv hd hcd
theorem GW{A B:Prop}(h:B):if false=true then A else B:=by rw[if_neg Aw];exact h
theorem GX{A B:Prop}(h:A):if true=true then A else B:=by rw[if_pos rfl];exact h
theorem Hx{c A B:Prop}[Decidable c](h1:c→A)(h2:¬c→B):if c then A else B:=by
 by_cases h:c
 · rw[if_pos h];exact h1 h
 · rw[if_neg h];exact h2 h
theorem Ou{c A B:Prop}[Decidable c](hc:c)(h:B):if(!decide c)=true then A else B:=by rw[decide_eq_true hc];exact GW h
def Same(H H':Hp):Prop:=∀b o,H b=some o→H' b=some o
theorem Same.refl(H:Hp):Same H H:=λ_ _ h=>h
theorem Same.trans{H1 H2:Hp}(a:Same H H1)(b:Same H1 H2):Same H H2:=λc o h=>b c o (a c o h)
theorem Same.free{H':Hp}(e:Same H H'){l:Addr}(h:H' l=Option.none):H l=Option.none:=by
 cases q:H l with
 | none=>rfl
 | some o=> rw[e l o q] at h;cases h
theorem Same.seq{H':Hp}(e:Same H H')(h:SqL K H a xs):SqL K H' a xs:=by
 rcases h with(h | ⟨o,h⟩) | h
 · exact .inl (.inl (e _ _ h))
 · exact .inl (.inr ⟨o,e _ _ h⟩)
 · exact .inr h
section
variable{κ:Type}[DecidableEq κ]
end
def Je(X:Cx)(N':List Str)(scope:Scope)(cl:List (Str×Addr))(C:Addr)(s₀:Shared)(H₀:Hp)(ex:List Addr):Cx:=
 {prog:=X.prog,w:=X.w,K:=X.K,mg:=X.mg,base:=X.base,A:=X.A,N:=N',s₀:=s₀,H₀:=H₀,env:=compEnvC scope cl C X.env,outer:=X.stack,stack:=X.stack,ex:=ex,fn:=λx=>scope.names.lookup x==some .cell,calm:=X.calm,pn:=[],xe:=λ_ _=>False}
abbrev Jj:=List (Option Nat)
def JF(js:Jj)(σ:St):St:=js.map λo=>o.bind λj=>(σ[j]?).join
theorem Vv{env:Env}(has:∀x,(env.kindOf x=some .cell∨env.kindOf x=some .free)→∃c,env.cells.lookup x=some c):
 ∀(names:List (Str×NameKind))(acc:List (Str×Addr)),(∀p∈names,p.2= .free→env.kindOf p.1=some .cell∨env.kindOf p.1=some .free)→(∀x c,acc.lookup x=some c→env.cells.lookup x=some c)→
  ∃cl,(forIn names acc (λ(p:Str×NameKind)(cs:List (Str×Addr))=>(do
   if p.2==NameKind.free then
    let c ←cellOf env p.1
    pure (ForInStep.yield ((p.1,c)::cs))
   else pure (ForInStep.yield cs):Sem (ForInStep (List (Str×Addr))))))=pure cl∧(∀x c,cl.lookup x=some c→env.cells.lookup x=some c)∧
   (∀x,(acc.lookup x).isSome=true→(cl.lookup x).isSome=true)∧∀p∈names,p.2= .free→(cl.lookup p.1).isSome=true:=by
 intro names
 induction names with
 | nil=>intro acc _ ha;exact⟨acc,rfl,ha,λ_ h=>h,λ_ h=>nomatch h⟩
 | cons p r ih=>
  intro acc hn ha;obtain⟨n,k⟩:=p;rw[Fa];by_cases hk:k= .free
  · subst hk;obtain⟨c,hc⟩:=has n (hn (n,.free) AD rfl);have e:cellOf env n=(pure c:Sem Addr):=by
     unfold cellOf;rw[hc]
    obtain⟨cl,h1,h2,h3,h4⟩:=ih ((n,c)::acc) (λq hq=>hn q (Az _ hq)) (λx c' hx=>by
     rw[BQ] at hx;cases hb:x==n with
     | true=> rw[hb] at hx;cases hx;rw[show x=n from eq_of_beq hb];exact hc
     | false=> rw[hb] at hx;exact ha x c' hx)
    refine⟨cl,?_,h2,λx hx=>h3 x ?_,λq hq hf=>?_⟩
    · simp only[beq_self_eq_true,if_true,e];exact h1
    · rw[BQ];cases hb:x==n with
      | true=>rfl
      | false=>exact hx
    · rcases Au.mp hq with rfl | hq
      · exact h3 _ (by simp[BQ])
      · exact h4 q hq hf
  · have hb:(k==NameKind.free)=false:=by simpa using hk
    obtain⟨cl,h1,h2,h3,h4⟩:=ih acc (λq hq=>hn q (Az _ hq)) ha;refine⟨cl,?_,h2,h3,λq hq hf=>?_⟩
    · simp only[hb,Cv,if_false];exact h1
    · rcases Au.mp hq with rfl | hq
      · exact absurd hf hk
      · exact h4 q hq hf
theorem O8{env:Env}{scope:Scope}(has:∀x,(env.kindOf x=some .cell∨env.kindOf x=some .free)→∃c,env.cells.lookup x=some c)
 (hn:∀p∈scope.names,p.2= .free→env.kindOf p.1=some .cell∨env.kindOf p.1=some .free):
 ∃cl,closureFor scope env=pure cl∧(∀x c,cl.lookup x=some c→env.cells.lookup x=some c)∧∀p∈scope.names,p.2= .free→(cl.lookup p.1).isSome=true:=by
 obtain⟨cl,h1,h2,_,h4⟩:=Vv has scope.names [] hn (λ_ _ h=>nomatch h);refine⟨cl,?_,h2,h4⟩;unfold closureFor;show(do let cs ←forIn scope.names [] _;pure cs)=_
 refine Eq.trans ?_ h1;simp only[bind_pure]
section
variable{R:Result→Shared→Prop}
theorem YX{elt target iter:Expr}{ifs:List Expr}{scope:Scope}{pos:Pos}{it acc:Value}{env:Env}(I:Nat→Shared→Prop)
 (turn:∀n s,I n s→wpAny (model prog w) A (pyNext it) (λr s₁=>match r with
  | none=>R (.ok .next) s₁
  | some v=>wpAny (model prog w) A (Dp target it v) (λ_ s₁'=>wpAny (model prog w) A (assign target env v) (λ_ s₂=>
   wpAny (model prog w) A (forIn ifs true λc r=>if r=true then do let ok ←isTrue c env (eval c env);pure (ForInStep.yield ok) else pure (ForInStep.yield r)) (λok s₃=>
    if ok=true then wpAny (model prog w) A (eval elt env) (λx s₄=> wpAny (model prog w) A (call (.builtin "list.append") [acc,x]) (λ_ s₅=>∃m,m<n∧I m s₅) (λ_ _=>False) s₄) (λ_ _=>False) s₃
    else ∃m,m<n∧I m s₃) (λ_ _=>False) s₂) (λ_ _=>False) s₁') (λ_ _=>False) s₁) (λ_ _=>False) s)
 (n:Nat) (h:I n s):
 codeAny (model prog w) A (.compLoop (.ListComp elt [⟨target,iter,ifs,0⟩] scope pos) 0 it acc env) R s:=by
 refine codeAny_loop rfl I (λn s hI=>?_) n h;show wpAny _ A ((compTurn (.ListComp elt [⟨target,iter,ifs,0⟩] scope pos) 0 it acc env).onRaise (λx=>do noteFrame x env;theTreesLotGoes x)) _ _ s
 refine wpAny_noted ?_;rw[compTurn_list];refine Aa (Dj (Aa (A9 (turn n s hI) (λr s₁ h₁=>?_) λ_ _ h'=>h'.elim)));cases r with
 | none=>exact Ac h₁
 | some v=>
  refine Aa (A9 h₁ (λ_ s₁' h₁'=>?_) λ_ _ h'=>h'.elim);refine Aa (A9 h₁' (λ_ s₂ h₂=>Aa (A9 h₂ (λok s₃ h₃=>?_) λ_ _ h'=>h'.elim)) λ_ _ h'=>h'.elim);cases ok with
  | false=>exact Ac ⟨rfl,h₃⟩
  | true=> exact Aa (Aa (A9 h₃ (λx s₄ h₄=>Aa (A9 h₄ (λ_ s₅ h₅=>Ac (Ac ⟨rfl,h₅⟩)) λ_ _ h'=>h'.elim)) λ_ _ h'=>h'.elim))
end
def Jg(X:Cx)(ifs:List Expr)(t:TT):Prop:=
 ∀(pins:List (Addr×Obj))(s:Shared)(σ:St)(H:Hp)(Q:Bool→Hp→Prop),Inv X pins σ H s→t σ H Q→
  wpAny (model X.prog X.w) X.A (forIn ifs true λc r=>if r=true then do let ok ←isTrue c X.env (eval c X.env);pure (ForInStep.yield ok) else pure (ForInStep.yield r)) (TP X pins σ Q) X.xe s
def PN:TT:=λ_ H Q=>Q true H
theorem J0:Jg X [] PN:=λ_ _ _ H _ I h=>wpAny_tests_nil ⟨H,I,h⟩
theorem Mw{c:Expr}{t:TT}(h:PT X c t):Jg X [c] t:=λpins s σ H Q I hw=>wpAny_tests_one (h pins s σ H Q I hw)
def JZ(J:It)(p:Addr)(js:Jj)(g:TG)(tc:TT)(te:TE)(σ:St)(H:Hp)(Q:VK):Prop:=
 ∃W:Nat→Nat→St→List V→Hp→Prop,(∃m,W 0 m (JF js σ) [] (GZ H p (.lst [])))∧∀i m σ' ys H,W i m σ' ys H→H p=some (.lst ys)∧
  ((J.stop i H∧Q (.ref p) H)∨(J.go i H∧ys.length<Ag∧∀x H',J.yld i H x H'→g x σ' H' λσ2 H2=>tc σ2 H2 λb H3=>
    if b=true then te σ2 H3 λy H4=>H4 p=some (.lst ys)∧∃m',m'<m∧W (i+1) m' σ2 (ys++[y]) (GZ H4 p (.lst (ys++[y])))
    else ∃m',m'<m∧W (i+1) m' σ2 ys H3))
def PV(wi:TI)(js:Jj)(g:TG)(tc:TT)(te:TE):TE:=λσ H Q=>wi σ H λJ H1=>∀p,H1 p=none→JZ J p js g tc te σ H1 Q
structure CapOk(X:Cx)(N':List Str)(js:Jj)(scope:Scope):Prop where
 len:js.length=N'.length
 kind:scope.kind= .function
 cells:∀p∈scope.names,p.2= .cell→scope.names.lookup p.1=some .cell
 names:∀p∈scope.names,p.2= .local→scope.names.lookup p.1=some .local
 free:∀p∈scope.names,p.2= .free→X.env.kindOf p.1=some .cell∨X.env.kindOf p.1=some .free
 cap:∀(i j:Nat),js[i]?=some (some j)→∃x,N'[i]?=some x∧X.N[j]?=some x∧scope.names.lookup x=some .free
theorem Pj{names:List (Str×NameKind)}{k:NameKind}(h:names.lookup x=some k):(x,k)∈names:=by
 induction names with
 | nil=>cases h
 | cons p r ih=>
  obtain⟨n,k'⟩:=p;rw[BQ] at h;cases hb:x==n with
  | true=> rw[hb] at h;cases h;rw[show x=n from eq_of_beq hb];exact AD
  | false=> rw[hb] at h;exact Az _ (ih h)
theorem TY{env:Env}{k:NameKind}(h:(relabel scope env).names.lookup x=some k):∃k0,scope.names.lookup x=some k0∧(k=k0∨(k0= .free∧k= .cell)):=by
 have go:∀(names:List (Str×NameKind)),(names.map λ(p:Str×NameKind)=>if(p.2==NameKind.free && env.scope.kind== .function && env.kindOf p.1==some .cell) then(p.1,NameKind.cell) else(p.1,p.2)).lookup x=some k→
  ∃k0,names.lookup x=some k0∧(k=k0∨(k0= .free∧k= .cell)):=by
  intro names
  induction names with
  | nil=>intro h;cases h
  | cons p r ih=>
   obtain⟨n,k'⟩:=p;intro h;rw[A7] at h;by_cases hc:(k'==NameKind.free && env.scope.kind== .function && env.kindOf n==some .cell)=true
   · rw[if_pos hc] at h;rw[BQ] at h ⊢;cases hb:x==n with
     | true=>
      rw[hb] at h;cases h;have:k'= .free:=by cases k'<;>first | rfl | (simp at hc)
      exact⟨k',rfl,.inr ⟨this,rfl⟩⟩
     | false=> rw[hb] at h;exact ih h
   · rw[if_neg hc] at h;rw[BQ] at h ⊢;cases hb:x==n with
     | true=> rw[hb] at h;cases h;exact⟨k',rfl,.inl rfl⟩
     | false=> rw[hb] at h;exact ih h
 exact go scope.names h
theorem Zo{env:Env}(h:scope.names.lookup x=some .free):(relabel scope env).names.lookup x=some .cell∨(relabel scope env).names.lookup x=some .free:=by
 have go:∀(names:List (Str×NameKind)),names.lookup x=some .free→(names.map λ(p:Str×NameKind)=>if(p.2==NameKind.free && env.scope.kind== .function && env.kindOf p.1==some .cell) then(p.1,NameKind.cell) else(p.1,p.2)).lookup x=some .cell∨
  (names.map λ(p:Str×NameKind)=>if(p.2==NameKind.free && env.scope.kind== .function && env.kindOf p.1==some .cell) then(p.1,NameKind.cell) else(p.1,p.2)).lookup x=some .free:=by
  intro names
  induction names with
  | nil=>intro h;cases h
  | cons p r ih=>
   obtain⟨n,k'⟩:=p;intro h;rw[A7];rw[BQ] at h;by_cases hc:(k'==NameKind.free && env.scope.kind== .function && env.kindOf n==some .cell)=true
   · rw[if_pos hc,BQ];cases hb:x==n with
     | true=>exact .inl rfl
     | false=> rw[hb] at h;exact ih h
   · rw[if_neg hc,BQ];cases hb:x==n with
     | true=> rw[hb] at h;exact .inr h
     | false=> rw[hb] at h;exact ih h
 exact go scope.names h
theorem NT:∀(names:List (Str×NameKind))(n:Nat)(acc:List (Str×Addr)),BF n names acc=BF n names []++acc
 | [],_,_=>rfl
 | (x,k)::r,n,acc=>by
  unfold BF
  split
  · rw[NT r _ ((x,n)::acc),NT r _ [(x,n)],List.append_assoc];rfl
  · exact NT r n acc
theorem Pu{c:Addr}:∀(names:List (Str×NameKind))(n:Nat)(acc:List (Str×Addr)),(x,c)∈BF n names acc→(x,NameKind.cell)∈names∨(x,c)∈acc
 | [],_,_,h=> .inr h
 | (y,k)::r,n,acc,h=>by
  unfold BF at h
  split at h
  · rename_i hk;rcases Pu r _ _ h with z | z
    · exact .inl (Az _ z)
    · rcases Au.mp z with z | z
      · cases z;rw[show k= .cell from eq_of_beq hk];exact .inl AD
      · exact .inr z
  · rcases Pu r _ _ h with z | z
    · exact .inl (Az _ z)
    · exact .inr z
structure OwnCells(scope:Scope)(cl0 cl:List (Str×Addr))(lo:Nat)(h₁:Heap):Prop where
 own:∀x c,cl.lookup x=some c→(scope.names.lookup x=some .cell→lo<c∧h₁.IsCell c none)∧(scope.names.lookup x≠some .cell→cl0.lookup x=some c)
 has:∀x,scope.names.lookup x=some .cell∨(cl0.lookup x).isSome=true→(cl.lookup x).isSome=true
 inj:∀x y c,scope.names.lookup x=some .cell→scope.names.lookup y=some .cell→cl.lookup x=some c→cl.lookup y=some c→x=y
theorem Ue{M:Model}{A:Bq}{E:Value→Shared→Prop}{s:Shared}{globals:Addr}{cl0:List (Str×Addr)}{qual:Str}{env:Env}{Q:Env→Shared→Prop}(ok:∀p∈scope.names,p.2= .cell→scope.names.lookup p.1=some .cell)
 (hQ:∀(cl:List (Str×Addr))(h₁:Heap),(∃m,h₁.Ns s.heap.objs.size m)→(∀b u,s.heap.get? b=some u→h₁.get? b=some u)→OwnCells scope cl0 cl s.heap.objs.size h₁→
  Q (newEnv scope s.heap.objs.size globals cl qual none .none (some env) builtinsNs) {s with heap:=h₁,toks:=s.toks+([]:List (Str×Value)).length}):
 wpAny M A (newFunctionEnv scope globals cl0 [] qual none .none (some env)) Q E s:=by
 simp only[newFunctionEnv,Option.isSome_some,if_true];refine Aa (wpAny_alloc ?_);refine Aa (wpAny_layCells _ (λname kind cells=>by cases hkc:kind==NameKind.cell<;>simp[hkc]) _ _ _ _ ?_);have ck:=cellsFrom_ok scope.names (s.heap.push {cls:= .type "dict",data:= .dict #[]}) (s.heap.objs.size+1) [] ⟨λ_ _ hm=>(nomatch hm),List.Pairwise.nil⟩ (by rw[AW];exact Ae _);rw[AW] at ck;rw[show({s with heap:=s.heap.push {cls:= .type "dict",data:= .dict #[]}}:Shared).heap.objs.size=s.heap.objs.size+1 from AW ..]
 rw[Fq];refine Aa (Ac (Ac ?_));rw[NT];refine hQ _ _ ⟨_,(Heap.Ns.new s.heap (.type "dict")).keeps (pushCells_keeps _ _)⟩ (λb o e=>pushCells_keeps _ _ b o (Ad _ e)) ?_;have lk:∀x,(BF (s.heap.objs.size+1) scope.names []++cl0).lookup x=((BF (s.heap.objs.size+1) scope.names []).lookup x).or (cl0.lookup x):=λx=>List.lookup_append;have cn:∀x c,(BF (s.heap.objs.size+1) scope.names []).lookup x=some c→scope.names.lookup x=some .cell:=λx c e=>by
  rcases Pu _ _ _ (mem_of_lookup e) with z | z
  · exact ok _ z rfl
  · cases z
 refine⟨λx c e=>⟨λhx=>?_,λhx=>?_⟩,λx hx=>?_,λx y c hx hy e1 e2=>?_⟩
 · rw[lk] at e;have q:=Ct scope.names (s.heap.objs.size+1) [] (.inl hx);cases z:(BF (s.heap.objs.size+1) scope.names []).lookup x with
   | none=>rw[z] at q;cases q
   | some c'=> rw[z] at e;cases e;have:=ck.empty _ _ (mem_of_lookup z);exact⟨this.2,this.1⟩
 · rw[lk] at e;cases z:(BF (s.heap.objs.size+1) scope.names []).lookup x with
   | none=>rw[z] at e;exact e
   | some c'=>exact absurd (cn x c' z) hx
 · rw[lk];rcases hx with hx | hx
   · have q:=Ct scope.names (s.heap.objs.size+1) [] (.inl hx);cases z:(BF (s.heap.objs.size+1) scope.names []).lookup x with
     | none=>rw[z] at q;cases q
     | some c'=>rfl
   · cases z:(BF (s.heap.objs.size+1) scope.names []).lookup x with
     | none=>exact hx
     | some c'=>rfl
 · rw[lk] at e1 e2;have go:∀x,scope.names.lookup x=some .cell→((BF (s.heap.objs.size+1) scope.names []).lookup x).or (cl0.lookup x)=some c→(x,c)∈BF (s.heap.objs.size+1) scope.names []:=λx hx e=>by
    have q:=Ct scope.names (s.heap.objs.size+1) [] (.inl hx);cases z:(BF (s.heap.objs.size+1) scope.names []).lookup x with
    | none=>rw[z] at q;cases q
    | some c'=>rw[z] at e;cases e;exact mem_of_lookup z
   exact name_of_addr ck.apart (go x hx e1) (go y hy e2)
theorem Tx{N':List Str}{js:Jj}{cl0 cl:List (Str×Addr)}{fp:List Addr}{h₁:Heap}{t':Nat}(ok:CapOk X N' js scope)(I:Inv X pins σ H s)
 (h2':∀x c,cl0.lookup x=some c→X.env.cells.lookup x=some c) (h3':∀p∈scope.names,p.2= .free→(cl0.lookup p.1).isSome=true)
 (hf:∀b∈fp,HG X pins H b) (hlt:∀b∈fp,b<s.heap.objs.size)
 (k:∀b u,s.heap.get? b=some u→h₁.get? b=some u) (hn:∃m,h₁.Ns s.heap.objs.size m) (oc:OwnCells scope cl0 cl s.heap.objs.size h₁):
 Inv (Je X N' scope cl s.heap.objs.size s H fp) [] (JF js σ) H {s with heap:=h₁,toks:=t'}:=by
 have fresh:H s.heap.objs.size=none:=I.hok.fresh (Ae _);have h2:∀x c,cl.lookup x=some c→(scope.names.lookup x=some .cell∧s.heap.objs.size<c∧h₁.IsCell c none)∨X.env.cells.lookup x=some c:=λx c e=>by
  by_cases hx:scope.names.lookup x=some .cell
  · exact .inl ⟨hx,(oc.own x c e).1 hx⟩
  · exact .inr (h2' x c ((oc.own x c e).2 hx))
 have h3:∀p∈scope.names,p.2= .free→(cl.lookup p.1).isSome=true:=λp hp e=>oc.has _ (.inr (h3' p hp e));have kind_of:∀x,((relabel scope X.env).names.lookup x=some .cell∨(relabel scope X.env).names.lookup x=some .free)→scope.names.lookup x=some .cell∨scope.names.lookup x=some .free:=λx hx=>by
  rcases hx with hx | hx
  · obtain⟨k0,e,z⟩:=TY hx;rcases z with z | ⟨z,_⟩
    · subst z;exact .inl e
    · subst z;exact .inr e
  · obtain⟨k0,e,z⟩:=TY hx;rcases z with z | ⟨z,z'⟩
    · subst z;exact .inr e
    · cases z'
 have clt:∀x c,X.env.cells.lookup x=some c→c<s.heap.objs.size:=λx c e=>let⟨v,hv⟩:=I.cell x c e;hv.lt;have okc:(Je X N' scope cl s.heap.objs.size s H fp).Ok:=by
  refine⟨I.ok.mod,ok.kind,I.ok.glob,I.ok.blt,Ae _,λx y c e1 e2=>?_,λx hx=>?_,λx c hx e=>?_,I.ok.hd,I.ok.frames,.inl rfl,λb hb=>⟨As (hlt b hb),λx c e=>?_⟩,I.bs,A8 I.ok.bsz I.sz,λb o e hb=>?_,λb hb hb'=>?_,I.stack,I.stkFree⟩
  · rcases h2 x c e1 with⟨k1,l1,_⟩ | l1
    · rcases h2 y c e2 with⟨k2,l2,_⟩ | l2
      · exact oc.inj x y c k1 k2 e1 e2
      · exact absurd l1 (Nat.lt_asymm (clt y c l2))
    · rcases h2 y c e2 with⟨k2,l2,_⟩ | l2
      · exact absurd l2 (Nat.lt_asymm (clt x c l1))
      · exact I.ok.inj x y c l1 l2
  · have z:(cl.lookup x).isSome=true:=by
     rcases kind_of x hx with e | e
     · exact oc.has x (.inl e)
     · exact h3 _ (Pj e) rfl
    cases q:cl.lookup x with
    | none=>rw[q] at z;cases z
    | some c=>exact⟨c,q⟩
  · exact Bb ((oc.own x c e).1 (eq_of_beq hx)).1
  · rcases h2 x c e with⟨_,l,_⟩ | l
    · exact λz=>Nat.lt_asymm (hlt b hb) (z ▸ l)
    · exact(hf b hb).2.2.2.2.1 x c l
  · rcases(hf b hb).2.2.2.1 with z | z
    · exact I.ok.noex b o e z
    · exact absurd (Av (Ao e) (A8 I.ok.bsz z)) (CU _)
  · rcases Au.mp (I.stkSub b hb') with z | z
    · exact(hf b hb).2.1 z
    · exact(hf b hb).2.2.1 z
 obtain⟨m,hn⟩:=hn;refine⟨okc,rfl,I.bare,Un.kept k,⟨m,hn,λi x v e1 e2 e3=>?_⟩,λx c e=>?_,fresh,λx c e=>?_,(λp hp=>nomatch hp),I.hok.kept k,by show(JF js σ).length=N'.length;unfold JF;rw[Ab];exact ok.len⟩
 · have e2:(JF js σ)[i]?=some (some v):=e2;unfold JF at e2;rw[Ay] at e2;cases q:js[i]? with
   | none=>rw[q] at e2;cases e2
   | some o=>
    rw[q] at e2;cases o with
    | none=>cases e2
    | some j=>
     obtain⟨x',n1,n2,n3⟩:=ok.cap i j q;have e1:N'[i]?=some x:=e1;rw[n1] at e1;cases e1;have e2:(σ[j]?).join=some v:=Am e2;have e2':σ[j]?=some (some v):=by
      cases q2:σ[j]? with
      | none=>rw[q2] at e2;cases e2
      | some o2=>rw[q2] at e2;exact congrArg some e2
     obtain⟨mo,hno,hlo⟩:=I.loc;have kx:=ok.free _ (Pj n3) rfl;have vis:Og X.env.scope x:=by
      rcases kx with z | z
      · exact .inr (.inl z)
      · exact .inr (.inr z)
     obtain⟨u,r,l⟩:=hlo j x v n2 e2' vis;refine⟨u,r,.inr ⟨Zo n3,?_⟩⟩;rcases l with⟨z,_⟩ | ⟨_,c,hc,hcell⟩
     · rcases kx with y | y<;>(rw[z] at y;cases y)
     · have z:=h3 _ (Pj n3) rfl;cases q3:cl.lookup x with
       | none=>rw[q3] at z;cases z
       | some c'=> have:=h2' x c' ((oc.own x c' q3).2 (by rw[n3];decide));rw[hc] at this;cases this;exact⟨c,q3,hcell.keeps k⟩
 · rcases h2 x c e with⟨_,_,l⟩ | l
   · exact⟨_,l⟩
   · obtain⟨v,hv⟩:=I.cell x c l;exact⟨v,hv.keeps k⟩
 · rcases h2 x c e with⟨_,l,_⟩ | l
   · exact I.hok.fresh (Bb l)
   · exact I.freeC x c l
section
variable{tg iter elt:Expr}{ifs:List Expr}{wi:TI}{js:Jj}{g:TG}{tc:TT}{te:TE}{N':List Str}
theorem SK{pins:List (Addr×Obj)}{σ:St}{H:Hp}{s:Shared}{E:Value→Shared→Prop}{Q:VK}{J:It}{it:Addr}{fp:List Addr}{tn:Nat→Heap→Prop}{cl:List (Str×Addr)}
 (hc:X.calm=true) (ok:CapOk X N' js scope)
 (h2:∀x c,cl.lookup x=some c→X.env.cells.lookup x=some c) (h3:∀p∈scope.names,p.2= .free→(cl.lookup p.1).isSome=true)
 (hg:∀cl C s₀ H₀ ex,PG (Je X N' scope cl C s₀ H₀ ex) tg g) (ht:∀cl C s₀ H₀ ex,Jg (Je X N' scope cl C s₀ H₀ ex) ifs tc) (he:∀cl C s₀ H₀ ex,PE (Je X N' scope cl C s₀ H₀ ex) elt te)
 (I:Inv X pins σ H s) (T:Turn X.prog X.w X.K tg J fp it tn) (st:tn 0 s.heap) (hf:∀b∈fp,HG X pins H b)
 (hw:∀p,H p=none→JZ J p js g tc te σ H Q):
 wpAny (model X.prog X.w) X.A (newList []) (λacc s₃=>wpAny (model X.prog X.w) X.A (newFunctionEnv scope X.env.globals cl [] X.env.qual none .none (some X.env)) (λcenv s₄=>
  codeAny (model X.prog X.w) X.A (.compStart (.ListComp elt [⟨tg,iter,ifs,0⟩] scope pos) 0 (.ref it) acc {cenv with scope:=relabel scope X.env})
   (λr s'=>r= .ok .next∧(∃m,s'.heap.Ns cenv.locals m)∧∃v H',RelV v acc∧Inv X pins σ H' s'∧HG X pins H' cenv.locals∧Q v H') s₄) E s₃) E s:=by
 have objs:=T.obj _ _ st;refine Ba ?_ (by show 0≤Ag;decide);obtain⟨W,⟨m0,w0⟩,turn⟩:=hw s.heap.objs.size (I.hok.fresh (Ae _));generalize hp:s.heap.objs.size=p at*;have kp:∀b u,s.heap.get? b=some u→(s.heap.push {cls:= .type "list",dict:=none,data:= .seq ([]:List Value).toArray}).get? b=some u:=λb u e=>Ad _ e;have I3:Inv X pins σ (GZ H p (.lst [])) {s with heap:=s.heap.push {cls:= .type "list",dict:=none,data:= .seq ([]:List Value).toArray}}:=by refine I.laid (t':=s.toks) kp (by rw[hp];exact Ae _) ⟨AX _,[],0,.nil,?_⟩;have:=Aq s.heap (o:={cls:= .type "list",dict:=none,data:= .seq ([]:List Value).toArray}) rfl;rw[hp] at this;exact this
 have fne:∀b∈fp,b≠p:=λb hb=>by obtain⟨o,e,_⟩:=objs b hb;have:=Ao e;rw[←hp];exact As this
 have hf3:∀b∈fp,HG X pins (GZ H p (.lst [])) b:=λb hb=>⟨by rw[Hk (fne b hb)];exact(hf b hb).1,(hf b hb).2⟩;have st3:tn 0 (s.heap.push {cls:= .type "list",dict:=none,data:= .seq ([]:List Value).toArray}):=T.keep _ _ _ st λb _ o e=>kp b o e;have lt3:∀b∈fp,b<(s.heap.push {cls:= .type "list",dict:=none,data:= .seq ([]:List Value).toArray}).objs.size:=λb hb=>by obtain⟨o,e,_⟩:=objs b hb;exact Ao (kp b o e)
 generalize hs3:({s with heap:=s.heap.push {cls:= .type "list",dict:=none,data:= .seq ([]:List Value).toArray}}:Shared)=s3 at*
 have eh:s.heap.push {cls:= .type "list",dict:=none,data:= .seq ([]:List Value).toArray}=s3.heap:=by rw[←hs3]
 rw[eh] at st3 lt3;refine Ue ok.cells λcl h₁ hns₁ k4 oc=>?_;have I4:=Tx (cl:=cl) (h₁:=h₁) (t':=s3.toks+([]:List (Str×Value)).length) ok I3 h2 h3 hf3 lt3 k4 hns₁ oc;have st4:tn 0 h₁:=T.keep _ _ _ st3 λb _ o e=>k4 b o e;generalize hX:Je X N' scope cl s3.heap.objs.size s3 (GZ H p (.lst [])) fp=X' at I4;have hg':PG X' tg g:=by rw[←hX];exact hg _ _ _ _ _
 have ht':Jg X' ifs tc:=by rw[←hX];exact ht _ _ _ _ _
 have he':PE X' elt te:=by rw[←hX];exact he _ _ _ _ _
 have eP:X'.prog=X.prog:=by rw[←hX];rfl
 have ew:X'.w=X.w:=by rw[←hX];rfl
 have eK:X'.K=X.K:=by rw[←hX];rfl
 have ec:X'.calm=true:=by rw[←hX];exact hc
 have eA:X'.A=X.A:=by rw[←hX];rfl
 have ex:X'.xe=λ_ _=>False:=by rw[←hX];rfl
 have eE:X'.env=compEnvC scope cl s3.heap.objs.size X.env:=by rw[←hX];rfl
 have eEx:X'.ex=fp:=by rw[←hX];rfl
 have eN:X'.pn=[]:=by rw[←hX];rfl
 have stat:∀{H':Hp},(∀b∈fp,H' b=none)→∀b∈fp,HG X' [] H' b:=λ{H'}hn b hb=>by have okc:=I4.ok;refine⟨hn b hb,(okc.exf b (by rw[eEx];exact hb)).1,okc.exfs b (by rw[eEx];exact hb),.inl (by rw[eEx];exact hb),(okc.exf b (by rw[eEx];exact hb)).2,λq hq=>?_⟩;rw[eN] at hq;cases hq
 have loop:∀s₄:Shared,s₄={s3 with heap:=h₁,toks:=s3.toks+([]:List (Str×Value)).length}→
  codeAny (model X.prog X.w) X.A (.compLoop (.ListComp elt [⟨tg,iter,ifs,0⟩] scope pos) 0 (.ref it) (.ref p) (compEnvC scope cl s3.heap.objs.size X.env))
   (λr s'=>r= .ok .next∧(∃m,s'.heap.Ns s3.heap.objs.size m)∧∃v H',RelV v (.ref p)∧Inv X pins σ H' s'∧HG X pins H' s3.heap.objs.size∧Q v H') s₄:=by
  rintro s₄ rfl;refine YX (λn s'=>∃i σ' ys H',Inv X' [] σ' H' s'∧tn i s'.heap∧(∀b∈fp,H' b=none)∧W i n σ' ys H') ?_ m0 ⟨0,_,[],_,I4,st4,λb hb=>(hf3 b hb).1,w0⟩;rintro n s5 ⟨i,σ5,ys,H5,I5,st5,fr5,w5⟩;obtain⟨hp5,tu⟩:=turn i n σ5 ys H5 w5;rcases tu with⟨stop,qn⟩ | ⟨go,hz,step⟩
  · have D:=T.done X' eP ew eK ec i [] s5 σ5 H5 (λ_ _=>False) I5 (stat fr5) st5 stop;rw[eA] at D;refine He D λr s6 ⟨hr,I6⟩=>?_;subst hr;refine⟨rfl,?_,.ref p,H5,rfl,?_,?_,qn⟩
    · obtain⟨m,hm,_⟩:=I6.loc;rw[eE] at hm;exact⟨m,hm⟩
    · have b6:=I6.base;have ho:=I6.os;have hk:=I6.hok;have hb:=I6.bare;subst hX;exact I3.call' (ch:=fp) ho b6 hk hb λb hb'=>⟨(hf b hb').2.2.2.1,(hf b hb').2.1,(hf b hb').2.2.2.2.1,(hf b hb').2.2.2.2.2⟩
    · have fr:=I6.free;rw[eE] at fr;exact I3.fpOk (Ae _) fr
  · have D:=T.item X' eP ew eK ec i [] s5 σ5 H5 (λ_ _=>False) I5 (stat fr5) st5 go;rw[eA] at D;refine He D λr s6 ⟨u,hr,h6⟩=>?_;subst hr;refine He h6 λ_ s7 ⟨x,H7,I7,r7,y7,st7,fr7⟩=>?_;have I7':=I7.pinned (stat fr7) (T.obj _ _ st7);have G:=hg' _ s7 σ5 H7 x u _ I7' r7 (step x H7 y7);rw[eP,ew,eA,ex,eE] at G;refine He G λ_ s8 ⟨σ8,H8,I8,q8⟩=>?_;have Tt:=ht' _ s8 σ8 H8 _ I8 q8;rw[eP,ew,eA,ex,eE] at Tt;refine He Tt λb s9 ⟨H9,I9,q9⟩=>?_;have again:∀{s':Shared}{ys':List V}{H':Hp},Inv X' ([]++KG fp s7.heap) σ8 H' s'→(∃m',m'<n∧W (i+1) m' σ8 ys' H')→
     ∃m,m<n∧∃i σ' ys H',Inv X' [] σ' H' s'∧tn i s'.heap∧(∀b∈fp,H' b=none)∧W i m σ' ys H':=λ{s' ys' H'}I' ⟨m',hm,w'⟩=>by
     refine⟨m',hm,i+1,σ8,ys',H',I'.unpinned,T.keep _ _ _ st7 λb hb o e=>(I'.pin (b,o) (AB _ (AB _ (L_ hb e)))).1,λb hb=>?_,w'⟩;obtain⟨o,e,d⟩:=T.obj _ _ st7 b hb;exact(I'.pin (b,o) (AB _ (AB _ (L_ hb e)))).2.1
    cases b with
    | false=>exact again I9 q9
    | true=> have Ee:=he' _ s9 σ8 H9 _ I9 q9;rw[eP,ew,eA,ex,eE] at Ee;show wpAny _ _ _ _ _ _;refine He Ee λxv s10 ⟨y,H10,I10,r10,hp10,q10⟩=>?_;have Ap:=NJ (X:=X') _ s10 σ8 H10 (.ref p) [y] (.ref p) [xv] (λ_ H'=>H'=GZ H10 p (.lst (ys++[y]))) I10 rfl (.cons r10 .nil) ⟨p,ys,y,rfl,rfl,hp10,hz,rfl⟩;rw[eP,ew,eA,ex] at Ap;refine He Ap λ_ s11 ⟨_,H11,I11,_,e11⟩=>?_;subst e11;exact again I11 q10
 exact Fh (loop _ rfl) (T.self _ 0 _ _ _ st4 (loop _ rfl))
theorem JI(hc:X.calm=true)(ok:CapOk X N' js scope)(hi:PI X tg iter wi)
 (hg:∀cl C s₀ H₀ ex,PG (Je X N' scope cl C s₀ H₀ ex) tg g) (ht:∀cl C s₀ H₀ ex,Jg (Je X N' scope cl C s₀ H₀ ex) ifs tc) (he:∀cl C s₀ H₀ ex,PE (Je X N' scope cl C s₀ H₀ ex) elt te)
 (hs:∀x,D3 iter X.env x=pure x:=by intro _;rfl):PE X (.ListComp elt [⟨tg,iter,ifs,0⟩] scope pos) (PV wi js g tc te):=by
 intro pins s σ H Q I h;obtain⟨cl,c1,c2,c3⟩:=O8 (scope:=scope) I.ok.has ok.free;rw[eval_ListComp];refine Ds (use:=none) rfl hs c1 ok.kind ok.names (He (hi pins s σ H _ I h) λv s1 h1=>He h1 λitv s2 h2=>?_);obtain⟨it,fp,tn,J,H2,e,I2,T,st2,f2,hw⟩:=h2;subst e;refine A9 (SK (iter:=iter) (pos:=pos) hc ok c2 c3 hg ht he I2 T st2 f2 hw) (λacc s3 h3=>A9 h3 (λcenv s4 h4=>?_) λ_ _ z=>z) λ_ _ z=>z;refine Ch h4 λr s5 h5=>?_;obtain⟨rfl,⟨m,hm⟩,v,H5,rv,I5,f5,q5⟩:=h5;refine⟨m,hm,λh' sb=>?_⟩;obtain⟨f0,f1,_,f3,f4,f6⟩:=f5;exact⟨v,H5,I5.turned (t':=s5.toks) (λb o hb e=>(sb.2 b hb).trans e) f0 f1 f3 f4 f6,rv,q5⟩
theorem LX{px:Pos}{spos:Pos}(hN:X.N.Nodup)(hi':X.N[i]?=some x)(hx:Na X.env.scope x)(hc:X.calm=true)(ok:CapOk X N' js scope)(hi:PI X tg iter wi)
 (hg:∀cl C s₀ H₀ ex,PG (Je X N' scope cl C s₀ H₀ ex) tg g) (ht:∀cl C s₀ H₀ ex,Jg (Je X N' scope cl C s₀ H₀ ex) ifs tc) (he:∀cl C s₀ H₀ ex,PE (Je X N' scope cl C s₀ H₀ ex) elt te)
 (hsw:swapsWith (.ListComp elt [⟨tg,iter,ifs,0⟩] scope pos) (some (.Name x px)) spos.line X.env=pure true:=by rfl)
 (hs:∀x,D3 iter X.env x=pure x:=by intro _;rfl) (hf:X.fn x=true∨X.env.scope.names.lookup x=some .local:=by first | exact .inl rfl | exact .inr rfl | assumption):
 PS X (.Assign [.Name x px] (.ListComp elt [⟨tg,iter,ifs,0⟩] scope pos) spos) (Ls (PV wi js g tc te) (LF i)):=by
 intro pins s σ H D I h;obtain⟨cl,c1,c2,c3⟩:=O8 (scope:=scope) I.ok.has ok.free;rw[exec_Assign_Name_used _ _ _ _ hsw];refine Aa (Dj (Aa ?_));show wpAny _ X.A (do let _ ←comprehension (.ListComp elt [⟨tg,iter,ifs,0⟩] scope pos) scope X.env _ (newList []) false (eval iter X.env) (some (assign (.Name x px) X.env))) _ _ s
 refine Aa (A9 (Ds (use:=some (assign (.Name x px) X.env)) (Q:=λ_ s'=>SP X pins D .next s') rfl hs c1 ok.kind ok.names
  (He (hi pins s σ H _ I h) λv s1 h1=>He h1 λitv s2 h2=>?_)) (λ_ s' hq=>Ac (Ac hq)) λ_ _ e=>e)
 obtain⟨it,fp,tn,J,H2,e,I2,T,st2,f2,hw⟩:=h2;subst e;refine A9 (SK (Q:=λx H1=>LF i x σ H1 D.nx) (iter:=iter) (pos:=pos) hc ok c2 c3 hg ht he I2 T st2 f2 hw) (λacc s3 h3=>A9 h3 (λcenv s4 h4=>?_) λ_ _ z=>z) λ_ _ z=>z;refine Ch h4 λr s5 h5=>?_;obtain⟨rfl,⟨m,hm⟩,v,H5,rv,I5,f5,q5⟩:=h5;obtain⟨f0,f1,f2',f3,f4,f6⟩:=f5;show wpAny _ X.A (assign (.Name x px) X.env acc) _ _ _;refine wpAny_assign_Name (Tv I5 hN hi' hx rv (λs6 I6 ch=>?_) hf);obtain⟨a,sb,ha⟩:=ch;have na:cenv.locals≠a:=by
  rcases ha with z | z
  · rw[z];exact f1
  · exact λy=>f4 x a z y.symm
 refine⟨m,hm.sameBut sb na,λh' sb'=>⟨_,H5,I6.turned (t':=s6.toks) (λb o hb e=>(sb'.2 b hb).trans e) f0 f1 f3 f4 f6,q5⟩⟩
end
end L2
set_option exponentiation.threshold 2000
namespace L2
def Q8(i j:Int):Prop:=0≤j∧j≤1000∧i.natAbs<2^1000
def Vd(i j:Int):Prop:=0<j∧j<2^1000
theorem Kf:HQ X (binaryOp .Pow) (rI Q8 λi j=> .int (i^j.toNat)):=Oc λi j _ _ _ _ _ hc q=>by
 obtain⟨h0,h1,h2⟩:=hc;refine pow_int h0 ?_ q;have hb:Ef i≤1000:=intBits_le h2;have e1:((Ef i:Nat):Int)*j≤1000*1000:=by have a1:((Ef i:Nat):Int)*j≤1000*j:=Int.mul_le_mul_of_nonneg_right (by omega) h0;have a2:1000*j≤1000*1000:=CZ h1 (by decide);exact Int.le_trans a1 a2
 exact Int.le_trans e1 (by decide)
theorem SU:HQ X (binaryOp .FloorDiv) (rI Vd λi j=> .int (i / j)):=Oc λi j _ _ _ _ _ hc q=>by
 obtain⟨h0,h1⟩:=hc;refine floordiv_int (by omega) ?_ (.inl (PyProof.noPylong_of_log2 ?_))
 · rw[Int.fdiv_eq_ediv_of_nonneg _ (by omega)];exact q
 · have h2:j.natAbs<2^1000:=by
    have e:((j.natAbs:Nat):Int)=j:=by omega
    have h3:((j.natAbs:Nat):Int)<((2^1000:Nat):Int):=by rw[e,Int.natCast_pow];exact h1
    exact Int.ofNat_lt.mp h3
   have h4:j.natAbs≠0:=by omega
   have h5:=(Nat.log2_lt h4).mpr h2;omega
inductive PD where
 | non | bl (b:Bool) | int (i:Int) | str (x:Str) | lst (ds:List PD) | tup (ds:List PD)
mutual
def GY(K:Af)(H:Hp):PD→V→Prop
 | .non,v=>v= .non
 | .bl b,v=>v= .bl b
 | .int i,v=>v= .int i
 | .str x,v=>v= .str x
 | .lst ds,v=>∃a xs,v= .ref a∧SqL K H a xs∧Reps K H ds xs
 | .tup ds,v=>∃a xs,v= .ref a∧SqT K H a xs∧Reps K H ds xs
def Reps(K:Af)(H:Hp):List PD→List V→Prop
 | [],xs=>xs=[]
 | d::ds,xs=>∃x r,xs=x::r∧GY K H d x∧Reps K H ds r
end
mutual
def Hw:PD→PD→Bool
 | .non,.non=>true
 | .bl a,.bl b=>a==b
 | .bl a,.int b=>(if a then 1 else 0)==b
 | .int a,.bl b=>a==(if b then 1 else 0)
 | .int a,.int b=>a==b
 | .str a,.str b=>a==b
 | .lst xs,.lst ys=>Jv xs ys
 | .tup xs,.tup ys=>Jv xs ys
 | _,_=>false
def Jv:List PD→List PD→Bool
 | [],[]=>true
 | x::xs,y::ys=>Hw x y && Jv xs ys
 | _,_=>false
end
mutual
def IL:PD→Nat
 | .lst ds=>Jc ds+1
 | .tup ds=>Jc ds+1
 | _=>0
def Jc:List PD→Nat
 | []=>0
 | d::ds=>max (IL d) (Jc ds)
end
mutual
theorem Kr:∀d:PD,Hw d d=true
 | .non=>rfl
 | .bl b=>by simp[Hw]
 | .int i=>by simp[Hw]
 | .str x=>by simp[Hw]
 | .lst ds=>by rw[Hw];exact M3 ds
 | .tup ds=>by rw[Hw];exact M3 ds
theorem M3:∀ds:List PD,Jv ds ds=true
 | []=>by rw[Jv]
 | d::ds=>by rw[Jv,Kr d,M3 ds];rfl
end
theorem Reps.length:∀{ds:List PD}{xs:List V},Reps K H ds xs→xs.length=ds.length
 | [],xs,h=>by rw[Reps] at h;rw[h];rfl
 | d::ds,xs,h=>by rw[Reps] at h;obtain⟨x,r,rfl,_,h⟩:=h;rw[Ax,Ax,Reps.length h]
theorem Ks:∀{xs ys:List PD},xs.length≠ys.length→Jv xs ys=false
 | [],[],h=>absurd rfl h
 | [],_::_,_=>by rw[Jv];all_goals simp
 | _::_,[],_=>by rw[Jv];all_goals simp
 | x::xs,y::ys,h=>by rw[Jv,Ks (xs:=xs) (ys:=ys) (by simpa using h)];simp
def KP(xs ys:List PD)(j:Nat):Bool:=match xs[j]?,ys[j]? with
 | some a,some b=>Hw a b
 | _,_=>false
theorem Lo:∀(xs ys:List PD),xs.length=ys.length→(AY xs.length).all (KP xs ys)=Jv xs ys
 | [],[],_=>by rw[Jv];rfl
 | x::xs,y::ys,h=>by rw[Jv,Ax,D9,C9,List.all_map];rw[←Lo xs ys (by simpa using h)];rfl
theorem SqT.notL{K:Af}{ys:List V}(I:Inv X pins σ H s)(h:SqT X.K H a xs)(h':SqL X.K H a ys):False:=by obtain⟨its,_,p,_⟩:=I.tuple h;obtain⟨its',_,p',_⟩:=I.list h';exact SeqAt.ne_of_list_tuple p'.isList (show s.heap.IsTuple a its.toArray from p) rfl
mutual
theorem OG(I:Inv X pins σ H s):∀(d e:PD)(v:V),GY X.K H d v→GY X.K H e v→d=e
 | .non,e,v,h,h'=>by rw[GY] at h;subst h;cases e<;>rw[GY] at h'<;>first | rfl | (obtain⟨_,_,z,_⟩:=h';cases z;done) | (cases h';done)
 | .bl b,e,v,h,h'=>by rw[GY] at h;subst h;cases e<;>rw[GY] at h'<;>first | (obtain⟨_,_,z,_⟩:=h';cases z;done) | (cases h';done) | (cases h';rfl)
 | .int i,e,v,h,h'=>by rw[GY] at h;subst h;cases e<;>rw[GY] at h'<;>first | (obtain⟨_,_,z,_⟩:=h';cases z;done) | (cases h';done) | (cases h';rfl)
 | .str x,e,v,h,h'=>by rw[GY] at h;subst h;cases e<;>rw[GY] at h'<;>first | (obtain⟨_,_,z,_⟩:=h';cases z;done) | (cases h';done) | (cases h';rfl)
 | .lst ds,e,v,h,h'=>by
  rw[GY] at h;obtain⟨a,xs,rfl,q,r⟩:=h;cases e with
  | lst es=> rw[GY] at h';obtain⟨a',ys,z,q',r'⟩:=h';cases z;have:=I.list_inj q q';subst this;rw[Pc I ds es xs r r']
  | tup es=> rw[GY] at h';obtain⟨a',ys,z,q',r'⟩:=h';cases z;exact(SqT.notL (K:=X.K) I q' q).elim
  | _=>rw[GY] at h';cases h'
 | .tup ds,e,v,h,h'=>by
  rw[GY] at h;obtain⟨a,xs,rfl,q,r⟩:=h;cases e with
  | tup es=> rw[GY] at h';obtain⟨a',ys,z,q',r'⟩:=h';cases z;have:=I.tuple_inj q q';subst this;rw[Pc I ds es xs r r']
  | lst es=> rw[GY] at h';obtain⟨a',ys,z,q',r'⟩:=h';cases z;exact(SqT.notL (K:=X.K) I q q').elim
  | _=>rw[GY] at h';cases h'
theorem Pc(I:Inv X pins σ H s):∀(ds es:List PD)(vs:List V),Reps X.K H ds vs→Reps X.K H es vs→ds=es
 | [],es,vs,h,h'=>by
  rw[Reps] at h;subst h;cases es with
  | nil=>rfl
  | cons e es=>rw[Reps] at h';obtain⟨_,_,z,_⟩:=h';cases z
 | d::ds,es,vs,h,h'=>by
  rw[Reps] at h;obtain⟨x,r,rfl,h1,h2⟩:=h;cases es with
  | nil=>rw[Reps] at h';cases h'
  | cons e es=> rw[Reps] at h';obtain⟨x',r',z,h1',h2'⟩:=h';cases z;rw[OG I d e x h1 h1',Pc I ds es r h2 h2']
end
mutual
theorem Lj(I:Inv X pins σ H s):∀(A:Bq)(d e:PD)(v w:V)(u y:Value),GY X.K H d v→GY X.K H e w→RelV v u→RelV w y→A.units+IL d<cLine→SeqAt.EqAt A s u y (Hw d e)
 | A,.non,e,v,w,u,y,h,h',r,r',z=>by
  rw[GY] at h;subst h;cases r;cases e with
  | non=>rw[GY] at h';subst h';cases r';rw[Hw];exact DU _
  | bl b=>rw[GY] at h';subst h';cases r';exact SeqAt.EqAt.none_bool b
  | int b=>rw[GY] at h';subst h';obtain⟨t,rfl⟩:=r';exact SeqAt.EqAt.none_int b t
  | str b=>rw[GY] at h';subst h';obtain⟨t,rfl⟩:=r';exact SeqAt.EqAt.none_str b t
  | lst es=>rw[GY] at h';obtain⟨a,xs,rfl,q,_⟩:=h';cases r';obtain⟨its,_,p,_⟩:=I.list q;exact SeqAt.EqAt.none_list p.isList (by omega)
  | tup es=>rw[GY] at h';obtain⟨a,xs,rfl,q,_⟩:=h';cases r';obtain⟨its,_,p,_⟩:=I.tuple q;exact SeqAt.EqAt.none_tuple p (by omega)
 | A,.bl c,e,v,w,u,y,h,h',r,r',z=>by
  rw[GY] at h;subst h;cases r;cases e with
  | non=>rw[GY] at h';subst h';cases r';exact SeqAt.EqAt.bool_none c
  | bl b=>rw[GY] at h';subst h';cases r';exact SeqAt.EqAt.bool_bool c b
  | int b=>rw[GY] at h';subst h';obtain⟨t,rfl⟩:=r';exact SeqAt.EqAt.bool_int c b t
  | str b=>rw[GY] at h';subst h';obtain⟨t,rfl⟩:=r';exact SeqAt.EqAt.bool_str c b t
  | lst es=>rw[GY] at h';obtain⟨a,xs,rfl,q,_⟩:=h';cases r';obtain⟨its,_,p,_⟩:=I.list q;exact SeqAt.EqAt.bool_list c p.isList (by omega)
  | tup es=>rw[GY] at h';obtain⟨a,xs,rfl,q,_⟩:=h';cases r';obtain⟨its,_,p,_⟩:=I.tuple q;exact SeqAt.EqAt.bool_tuple c p (by omega)
 | A,.int c,e,v,w,u,y,h,h',r,r',z=>by
  rw[GY] at h;subst h;obtain⟨tc,rfl⟩:=r;cases e with
  | non=>rw[GY] at h';subst h';cases r';exact SeqAt.EqAt.int_none c tc
  | bl b=>rw[GY] at h';subst h';cases r';exact SeqAt.EqAt.int_bool c tc b
  | int b=>rw[GY] at h';subst h';obtain⟨t,rfl⟩:=r';exact SeqAt.EqAt.int_int c tc b t
  | str b=>rw[GY] at h';subst h';obtain⟨t,rfl⟩:=r';exact SeqAt.EqAt.int_str c tc b t
  | lst es=>rw[GY] at h';obtain⟨a,xs,rfl,q,_⟩:=h';cases r';obtain⟨its,_,p,_⟩:=I.list q;exact SeqAt.EqAt.int_list c tc p.isList (by omega)
  | tup es=>rw[GY] at h';obtain⟨a,xs,rfl,q,_⟩:=h';cases r';obtain⟨its,_,p,_⟩:=I.tuple q;exact SeqAt.EqAt.int_tuple c tc p (by omega)
 | A,.str c,e,v,w,u,y,h,h',r,r',z=>by
  rw[GY] at h;subst h;obtain⟨tc,rfl⟩:=r;cases e with
  | non=>rw[GY] at h';subst h';cases r';exact SeqAt.EqAt.str_none c tc
  | bl b=>rw[GY] at h';subst h';cases r';exact SeqAt.EqAt.str_bool c tc b
  | int b=>rw[GY] at h';subst h';obtain⟨t,rfl⟩:=r';exact SeqAt.EqAt.str_int c tc b t
  | str b=>rw[GY] at h';subst h';obtain⟨t,rfl⟩:=r';exact SeqAt.EqAt.str_str c tc b t
  | lst es=>rw[GY] at h';obtain⟨a,xs,rfl,q,_⟩:=h';cases r';obtain⟨its,_,p,_⟩:=I.list q;exact SeqAt.EqAt.str_list c tc p.isList (by omega)
  | tup es=>rw[GY] at h';obtain⟨a,xs,rfl,q,_⟩:=h';cases r';obtain⟨its,_,p,_⟩:=I.tuple q;exact SeqAt.EqAt.str_tuple c tc p (by omega)
 | A,.lst ds,e,v,w,u,y,h,h',r,r',z=>by
  have h0:=h;rw[GY] at h;obtain⟨a,xs,rfl,q,qs⟩:=h;cases r;obtain⟨its,rv,p,_⟩:=I.list q;cases e with
  | non=>rw[GY] at h';subst h';cases r';exact SeqAt.EqAt.list_none p.isList (by omega)
  | bl b=>rw[GY] at h';subst h';cases r';exact SeqAt.EqAt.list_bool b p.isList (by omega)
  | int b=>rw[GY] at h';subst h';obtain⟨t,rfl⟩:=r';exact SeqAt.EqAt.list_int b t p.isList (by omega)
  | str b=>rw[GY] at h';subst h';obtain⟨t,rfl⟩:=r';exact SeqAt.EqAt.list_str b t p.isList (by omega)
  | tup es=>rw[GY] at h';obtain⟨b,ys,rfl,q',_⟩:=h';cases r';obtain⟨its',_,p',_⟩:=I.tuple q';exact SeqAt.EqAt.list_tuple p.isList p' (by omega)
  | lst es=>
   have h0':=h';rw[GY] at h';obtain⟨b,ys,rfl,q',qs'⟩:=h';cases r';obtain⟨its',rv',p',_⟩:=I.list q';by_cases hab:a=b
   · subst hab;rw[OG I _ _ _ h0 h0',Kr];exact DU _
   · refine SeqAt.EqAt.of_refs hab ?_;rw[Hw];rw[IL] at z;have l1:=qs.length;have l2:=qs'.length;have l3:=rv.length;have l4:=rv'.length;by_cases hl:ds.length=es.length
     · rw[←Lo ds es hl];have:=SeqAt.RcAt.lists (e:=KP ds es) p.isList p'.isList (by simp;omega) (by omega) (λj h1 h2=>?_) (A:=A)
       · simp only[Al] at this;rw[show ds.length=its.length by omega];exact this
       · have:=Lm I A.in1 ds es xs ys its its' qs qs' rv rv' (by rw[A_];omega) j (by simpa using h1) (by simpa using h2);simpa using this
     · rw[Ks hl];exact EJ p.isList p'.isList (by simp;omega) (by omega)
 | A,.tup ds,e,v,w,u,y,h,h',r,r',z=>by
  have h0:=h;rw[GY] at h;obtain⟨a,xs,rfl,q,qs⟩:=h;cases r;obtain⟨its,rv,p,_⟩:=I.tuple q;cases e with
  | non=>rw[GY] at h';subst h';cases r';exact SeqAt.EqAt.tuple_none p (by omega)
  | bl b=>rw[GY] at h';subst h';cases r';exact SeqAt.EqAt.tuple_bool b p (by omega)
  | int b=>rw[GY] at h';subst h';obtain⟨t,rfl⟩:=r';exact SeqAt.EqAt.tuple_int b t p (by omega)
  | str b=>rw[GY] at h';subst h';obtain⟨t,rfl⟩:=r';exact SeqAt.EqAt.tuple_str b t p (by omega)
  | lst es=>rw[GY] at h';obtain⟨b,ys,rfl,q',_⟩:=h';cases r';obtain⟨its',_,p',_⟩:=I.list q';exact SeqAt.EqAt.tuple_list p p'.isList (by omega)
  | tup es=>
   have h0':=h';rw[GY] at h';obtain⟨b,ys,rfl,q',qs'⟩:=h';cases r';obtain⟨its',rv',p',_⟩:=I.tuple q';by_cases hab:a=b
   · subst hab;rw[OG I _ _ _ h0 h0',Kr];exact DU _
   · refine SeqAt.EqAt.of_refs hab ?_;rw[Hw];rw[IL] at z;have l1:=qs.length;have l2:=qs'.length;have l3:=rv.length;have l4:=rv'.length;have:=SeqAt.RcAt.tuples (e:=KP ds es) p p' (by omega) (λj h1 h2=>?_) (A:=A)
     · simp only[Al] at this;by_cases hl:ds.length=es.length
       · rw[←Lo ds es hl];rw[show min its.length its'.length=ds.length by omega,show(its.length==its'.length)=true by simp;omega,Bool.and_true] at this;exact this
       · rw[Ks hl];rw[show(its.length==its'.length)=false by simp;omega,CG] at this;exact this
     · have:=Lm I A.in1 ds es xs ys its its' qs qs' rv rv' (by rw[A_];omega) j (by simpa using h1) (by simpa using h2);simpa using this
theorem Lm(I:Inv X pins σ H s):∀(A:Bq)(ds es:List PD)(vs ws:List V)(us ys:List Value),Reps X.K H ds vs→Reps X.K H es ws→Vals vs us→Vals ws ys→A.units+Jc ds<cLine→
 ∀(j:Nat)(h1:j<us.length)(h2:j<ys.length),SeqAt.EqAt A s us[j] ys[j] (KP ds es j)
 | A,[],es,vs,ws,us,ys,h,h',r,r',z=>by rw[Reps] at h;subst h;cases r;intro j h1;exact absurd h1 (DV _)
 | A,d::ds,es,vs,ws,us,ys,h,h',r,r',z=>by
  rw[Reps] at h;obtain⟨x,vr,rfl,g1,g2⟩:=h;cases es with
  | nil=> rw[Reps] at h';subst h';cases r';intro j h1 h2;exact absurd h2 (DV _)
  | cons e es=>
   rw[Reps] at h';obtain⟨x',vr',rfl,g1',g2'⟩:=h';cases r with
   | cons ra rb=>
    cases r' with
    | cons ra' rb'=>
     rw[Jc] at z;intro j h1 h2;cases j with
     | zero=>exact Lj I A d e x x' _ _ g1 g1' ra ra' (by omega)
     | succ j=>exact Lm I A ds es vr vr' _ _ g2 g2' rb rb' (by omega) j (by simpa using h1) (by simpa using h2)
end
section
variable{R:Result→Shared→Prop}{J:Addr}{fo wo:List Addr}{len:Nat}{At:Nat→Value→Prop}{Sx:Nat→Heap→Prop}
end
section
variable{R:Result→Shared→Prop}{J:Addr}{fo wo:List Addr}{len:Nat}{At:Nat→Value→Prop}{Sx:Nat→Heap→Prop}
end
theorem Mx(I:Inv X pins σ H s)(A:Bq)(d e:PD)(v w:V)(u y:Value)(h:GY X.K H d v)(h':GY X.K H e w)(r:RelV v u)(r':RelV w y)(z:A.units+IL d<cLine):SeqAt.RcAt A s u y (Hw d e):=by
 cases d with
 | non=>
  rw[GY] at h;subst h;cases r;cases e with
  | non=> rw[GY] at h';subst h';cases r';rw[Hw];exact SeqAt.RcAt.none_none
  | bl b=> rw[GY] at h';subst h';cases r';exact SeqAt.RcAt.none_bool b
  | int b=> rw[GY] at h';subst h';obtain⟨t,rfl⟩:=r';exact SeqAt.RcAt.none_int b t
  | str b=> rw[GY] at h';subst h';obtain⟨t,rfl⟩:=r';exact SeqAt.RcAt.none_str b t
  | lst es=> rw[GY] at h';obtain⟨b,ys,rfl,q',qs'⟩:=h';cases r';obtain⟨its',rv',p',_⟩:=I.list q';exact SeqAt.RcAt.none_list p'.isList (by omega)
  | tup es=> rw[GY] at h';obtain⟨b,ys,rfl,q',qs'⟩:=h';cases r';obtain⟨its',rv',p',_⟩:=I.tuple q';exact SeqAt.RcAt.none_tuple p' (by omega)
 | bl c=>
  rw[GY] at h;subst h;cases r;cases e with
  | non=> rw[GY] at h';subst h';cases r';exact SeqAt.RcAt.bool_none c
  | bl b=> rw[GY] at h';subst h';cases r';exact SeqAt.RcAt.bool_bool c b
  | int b=> rw[GY] at h';subst h';obtain⟨t,rfl⟩:=r';exact SeqAt.RcAt.bool_int c b t
  | str b=> rw[GY] at h';subst h';obtain⟨t,rfl⟩:=r';exact SeqAt.RcAt.bool_str c b t
  | lst es=> rw[GY] at h';obtain⟨b,ys,rfl,q',qs'⟩:=h';cases r';obtain⟨its',rv',p',_⟩:=I.list q';exact SeqAt.RcAt.bool_list c p'.isList (by omega)
  | tup es=> rw[GY] at h';obtain⟨b,ys,rfl,q',qs'⟩:=h';cases r';obtain⟨its',rv',p',_⟩:=I.tuple q';exact SeqAt.RcAt.bool_tuple c p' (by omega)
 | int c=>
  rw[GY] at h;subst h;obtain⟨tc,rfl⟩:=r;cases e with
  | non=> rw[GY] at h';subst h';cases r';exact SeqAt.RcAt.int_none c tc
  | bl b=> rw[GY] at h';subst h';cases r';exact SeqAt.RcAt.int_bool c tc b
  | int b=> rw[GY] at h';subst h';obtain⟨t,rfl⟩:=r';exact SeqAt.RcAt.int_int c tc b t
  | str b=> rw[GY] at h';subst h';obtain⟨t,rfl⟩:=r';exact SeqAt.RcAt.int_str c tc b t
  | lst es=> rw[GY] at h';obtain⟨b,ys,rfl,q',qs'⟩:=h';cases r';obtain⟨its',rv',p',_⟩:=I.list q';exact SeqAt.RcAt.int_list c tc p'.isList (by omega)
  | tup es=> rw[GY] at h';obtain⟨b,ys,rfl,q',qs'⟩:=h';cases r';obtain⟨its',rv',p',_⟩:=I.tuple q';exact SeqAt.RcAt.int_tuple c tc p' (by omega)
 | str c=>
  rw[GY] at h;subst h;obtain⟨tc,rfl⟩:=r;cases e with
  | non=> rw[GY] at h';subst h';cases r';exact SeqAt.RcAt.str_none c tc
  | bl b=> rw[GY] at h';subst h';cases r';exact SeqAt.RcAt.str_bool c tc b
  | int b=> rw[GY] at h';subst h';obtain⟨t,rfl⟩:=r';exact SeqAt.RcAt.str_int c tc b t
  | str b=> rw[GY] at h';subst h';obtain⟨t,rfl⟩:=r';exact SeqAt.RcAt.str_str c tc b t
  | lst es=> rw[GY] at h';obtain⟨b,ys,rfl,q',qs'⟩:=h';cases r';obtain⟨its',rv',p',_⟩:=I.list q';exact SeqAt.RcAt.str_list c tc p'.isList (by omega)
  | tup es=> rw[GY] at h';obtain⟨b,ys,rfl,q',qs'⟩:=h';cases r';obtain⟨its',rv',p',_⟩:=I.tuple q';exact SeqAt.RcAt.str_tuple c tc p' (by omega)
 | lst ds=>
  rw[GY] at h;obtain⟨a,xs,rfl,q,qs⟩:=h;cases r;obtain⟨its,rv,p,_⟩:=I.list q;cases e with
  | non=> rw[GY] at h';subst h';cases r';exact SeqAt.RcAt.list_none p.isList (by omega)
  | bl b=> rw[GY] at h';subst h';cases r';exact SeqAt.RcAt.list_bool b p.isList (by omega)
  | int b=> rw[GY] at h';subst h';obtain⟨t,rfl⟩:=r';exact SeqAt.RcAt.list_int b t p.isList (by omega)
  | str b=> rw[GY] at h';subst h';obtain⟨t,rfl⟩:=r';exact SeqAt.RcAt.list_str b t p.isList (by omega)
  | lst es=>
   rw[GY] at h';obtain⟨b,ys,rfl,q',qs'⟩:=h';cases r';obtain⟨its',rv',p',_⟩:=I.list q';rw[Hw];rw[IL] at z;have l1:=qs.length;have l2:=qs'.length;have l3:=rv.length;have l4:=rv'.length;by_cases hl:ds.length=es.length
   · rw[←Lo ds es hl];have:=SeqAt.RcAt.lists (e:=KP ds es) p.isList p'.isList (by simp;omega) (by omega) (λj h1 h2=>?_) (A:=A)
     · simp only[Al] at this;rw[show ds.length=its.length by omega];exact this
     · have:=Lm I A.in1 ds es xs ys its its' qs qs' rv rv' (by rw[A_];omega) j (by simpa using h1) (by simpa using h2);simpa using this
   · rw[Ks hl];exact EJ p.isList p'.isList (by simp;omega) (by omega)
  | tup es=> rw[GY] at h';obtain⟨b,ys,rfl,q',qs'⟩:=h';cases r';obtain⟨its',rv',p',_⟩:=I.tuple q';exact SeqAt.RcAt.list_tuple p.isList p' (by omega)
 | tup ds=>
  rw[GY] at h;obtain⟨a,xs,rfl,q,qs⟩:=h;cases r;obtain⟨its,rv,p,_⟩:=I.tuple q;cases e with
  | non=> rw[GY] at h';subst h';cases r';exact SeqAt.RcAt.tuple_none p (by omega)
  | bl b=> rw[GY] at h';subst h';cases r';exact SeqAt.RcAt.tuple_bool b p (by omega)
  | int b=> rw[GY] at h';subst h';obtain⟨t,rfl⟩:=r';exact SeqAt.RcAt.tuple_int b t p (by omega)
  | str b=> rw[GY] at h';subst h';obtain⟨t,rfl⟩:=r';exact SeqAt.RcAt.tuple_str b t p (by omega)
  | lst es=> rw[GY] at h';obtain⟨b,ys,rfl,q',qs'⟩:=h';cases r';obtain⟨its',rv',p',_⟩:=I.list q';exact SeqAt.RcAt.tuple_list p p'.isList (by omega)
  | tup es=>
   rw[GY] at h';obtain⟨b,ys,rfl,q',qs'⟩:=h';cases r';obtain⟨its',rv',p',_⟩:=I.tuple q';rw[Hw];rw[IL] at z;have l1:=qs.length;have l2:=qs'.length;have l3:=rv.length;have l4:=rv'.length;have:=SeqAt.RcAt.tuples (e:=KP ds es) p p' (by omega) (λj h1 h2=>?_) (A:=A)
   · simp only[Al] at this;by_cases hl:ds.length=es.length
     · rw[←Lo ds es hl];rw[show min its.length its'.length=ds.length by omega,show(its.length==its'.length)=true by simp;omega,Bool.and_true] at this;exact this
     · rw[Ks hl];rw[show(its.length==its'.length)=false by simp;omega,CG] at this;exact this
   · have:=Lm I A.in1 ds es xs ys its its' qs qs' rv rv' (by rw[A_];omega) j (by simpa using h1) (by simpa using h2);simpa using this
theorem X_(I:Inv X pins σ H s)(A:Bq)(d e:PD)(v w:V)(u y:Value)(h:GY X.K H d v)(h':GY X.K H e w)(r:RelV v u)(r':RelV w y)(z:A.units+IL d<cLine):SeqAt.RcNeAt A s u y (!Hw d e):=by
 cases d with
 | non=>
  rw[GY] at h;subst h;cases r;cases e with
  | non=> rw[GY] at h';subst h';cases r';rw[Hw];exact SeqAt.RcNeAt.none_none
  | bl b=> rw[GY] at h';subst h';cases r';exact SeqAt.RcNeAt.none_bool b
  | int b=> rw[GY] at h';subst h';obtain⟨t,rfl⟩:=r';exact SeqAt.RcNeAt.none_int b t
  | str b=> rw[GY] at h';subst h';obtain⟨t,rfl⟩:=r';exact SeqAt.RcNeAt.none_str b t
  | lst es=> rw[GY] at h';obtain⟨b,ys,rfl,q',qs'⟩:=h';cases r';obtain⟨its',rv',p',_⟩:=I.list q';exact SeqAt.RcNeAt.none_list p'.isList (by omega)
  | tup es=> rw[GY] at h';obtain⟨b,ys,rfl,q',qs'⟩:=h';cases r';obtain⟨its',rv',p',_⟩:=I.tuple q';exact SeqAt.RcNeAt.none_tuple p' (by omega)
 | bl c=>
  rw[GY] at h;subst h;cases r;cases e with
  | non=> rw[GY] at h';subst h';cases r';exact SeqAt.RcNeAt.bool_none c
  | bl b=> rw[GY] at h';subst h';cases r';exact SeqAt.RcNeAt.bool_bool c b
  | int b=> rw[GY] at h';subst h';obtain⟨t,rfl⟩:=r';exact SeqAt.RcNeAt.bool_int c b t
  | str b=> rw[GY] at h';subst h';obtain⟨t,rfl⟩:=r';exact SeqAt.RcNeAt.bool_str c b t
  | lst es=> rw[GY] at h';obtain⟨b,ys,rfl,q',qs'⟩:=h';cases r';obtain⟨its',rv',p',_⟩:=I.list q';exact SeqAt.RcNeAt.bool_list c p'.isList (by omega)
  | tup es=> rw[GY] at h';obtain⟨b,ys,rfl,q',qs'⟩:=h';cases r';obtain⟨its',rv',p',_⟩:=I.tuple q';exact SeqAt.RcNeAt.bool_tuple c p' (by omega)
 | int c=>
  rw[GY] at h;subst h;obtain⟨tc,rfl⟩:=r;cases e with
  | non=> rw[GY] at h';subst h';cases r';exact SeqAt.RcNeAt.int_none c tc
  | bl b=> rw[GY] at h';subst h';cases r';exact SeqAt.RcNeAt.int_bool c tc b
  | int b=> rw[GY] at h';subst h';obtain⟨t,rfl⟩:=r';exact SeqAt.RcNeAt.int_int c tc b t
  | str b=> rw[GY] at h';subst h';obtain⟨t,rfl⟩:=r';exact SeqAt.RcNeAt.int_str c tc b t
  | lst es=> rw[GY] at h';obtain⟨b,ys,rfl,q',qs'⟩:=h';cases r';obtain⟨its',rv',p',_⟩:=I.list q';exact SeqAt.RcNeAt.int_list c tc p'.isList (by omega)
  | tup es=> rw[GY] at h';obtain⟨b,ys,rfl,q',qs'⟩:=h';cases r';obtain⟨its',rv',p',_⟩:=I.tuple q';exact SeqAt.RcNeAt.int_tuple c tc p' (by omega)
 | str c=>
  rw[GY] at h;subst h;obtain⟨tc,rfl⟩:=r;cases e with
  | non=> rw[GY] at h';subst h';cases r';exact SeqAt.RcNeAt.str_none c tc
  | bl b=> rw[GY] at h';subst h';cases r';exact SeqAt.RcNeAt.str_bool c tc b
  | int b=> rw[GY] at h';subst h';obtain⟨t,rfl⟩:=r';exact SeqAt.RcNeAt.str_int c tc b t
  | str b=> rw[GY] at h';subst h';obtain⟨t,rfl⟩:=r';exact SeqAt.RcNeAt.str_str c tc b t
  | lst es=> rw[GY] at h';obtain⟨b,ys,rfl,q',qs'⟩:=h';cases r';obtain⟨its',rv',p',_⟩:=I.list q';exact SeqAt.RcNeAt.str_list c tc p'.isList (by omega)
  | tup es=> rw[GY] at h';obtain⟨b,ys,rfl,q',qs'⟩:=h';cases r';obtain⟨its',rv',p',_⟩:=I.tuple q';exact SeqAt.RcNeAt.str_tuple c tc p' (by omega)
 | lst ds=>
  rw[GY] at h;obtain⟨a,xs,rfl,q,qs⟩:=h;cases r;obtain⟨its,rv,p,_⟩:=I.list q;cases e with
  | non=> rw[GY] at h';subst h';cases r';exact SeqAt.RcNeAt.list_none p.isList (by omega)
  | bl b=> rw[GY] at h';subst h';cases r';exact SeqAt.RcNeAt.list_bool b p.isList (by omega)
  | int b=> rw[GY] at h';subst h';obtain⟨t,rfl⟩:=r';exact SeqAt.RcNeAt.list_int b t p.isList (by omega)
  | str b=> rw[GY] at h';subst h';obtain⟨t,rfl⟩:=r';exact SeqAt.RcNeAt.list_str b t p.isList (by omega)
  | lst es=>
   rw[GY] at h';obtain⟨b,ys,rfl,q',qs'⟩:=h';cases r';obtain⟨its',rv',p',_⟩:=I.list q';rw[Hw];rw[IL] at z;have l1:=qs.length;have l2:=qs'.length;have l3:=rv.length;have l4:=rv'.length;by_cases hl:ds.length=es.length
   · rw[←Lo ds es hl];have:=SeqAt.RcNeAt.lists (e:=KP ds es) p.isList p'.isList (by simp;omega) (by omega) (λj h1 h2=>?_) (A:=A)
     · simp only[Al] at this;rw[show ds.length=its.length by omega];exact this
     · have:=Lm I A.in1 ds es xs ys its its' qs qs' rv rv' (by rw[A_];omega) j (by simpa using h1) (by simpa using h2);simpa using this
   · rw[Ks hl];exact E4 p.isList p'.isList (by simp;omega) (by omega)
  | tup es=> rw[GY] at h';obtain⟨b,ys,rfl,q',qs'⟩:=h';cases r';obtain⟨its',rv',p',_⟩:=I.tuple q';exact SeqAt.RcNeAt.list_tuple p.isList p' (by omega)
 | tup ds=>
  rw[GY] at h;obtain⟨a,xs,rfl,q,qs⟩:=h;cases r;obtain⟨its,rv,p,_⟩:=I.tuple q;cases e with
  | non=> rw[GY] at h';subst h';cases r';exact SeqAt.RcNeAt.tuple_none p (by omega)
  | bl b=> rw[GY] at h';subst h';cases r';exact SeqAt.RcNeAt.tuple_bool b p (by omega)
  | int b=> rw[GY] at h';subst h';obtain⟨t,rfl⟩:=r';exact SeqAt.RcNeAt.tuple_int b t p (by omega)
  | str b=> rw[GY] at h';subst h';obtain⟨t,rfl⟩:=r';exact SeqAt.RcNeAt.tuple_str b t p (by omega)
  | lst es=> rw[GY] at h';obtain⟨b,ys,rfl,q',qs'⟩:=h';cases r';obtain⟨its',rv',p',_⟩:=I.list q';exact SeqAt.RcNeAt.tuple_list p p'.isList (by omega)
  | tup es=>
   rw[GY] at h';obtain⟨b,ys,rfl,q',qs'⟩:=h';cases r';obtain⟨its',rv',p',_⟩:=I.tuple q';rw[Hw];rw[IL] at z;have l1:=qs.length;have l2:=qs'.length;have l3:=rv.length;have l4:=rv'.length;have:=SeqAt.RcNeAt.tuples (e:=KP ds es) p p' (by omega) (λj h1 h2=>?_) (A:=A)
   · simp only[Al] at this;by_cases hl:ds.length=es.length
     · rw[←Lo ds es hl];rw[show min its.length its'.length=ds.length by omega,show(its.length==its'.length)=true by simp;omega,Bool.and_true] at this;exact this
     · rw[Ks hl];rw[show(its.length==its'.length)=false by simp;omega,CG] at this;exact this
   · have:=Lm I A.in1 ds es xs ys its its' qs qs' rv rv' (by rw[A_];omega) j (by simpa using h1) (by simpa using h2);simpa using this
def JS(X:Cx):Prop:=X.A.units+60<cLine
def MK(K:Af):R2:=λx y H Q=>∃d e,GY K H d x∧GY K H e y∧IL d<60∧Q (.bl (Hw d e)) H
def MG(K:Af):R2:=λx y H Q=>∃d e,GY K H d x∧GY K H e y∧IL d<60∧Q (.bl (!Hw d e)) H
theorem V6(hr:JS X):HQ X (Bj .Eq) (MK X.K):=by intro pins s σ H x y v u Q I rx ry h;obtain⟨d,e,h1,h2,h3,q⟩:=h;unfold JS at hr;exact Mx I X.A d e x y v u h1 h2 rx ry (by omega) X.prog X.w _ _ ⟨.bl _,H,I,rfl,q⟩
theorem Rx(hr:JS X):HQ X (Bj .NotEq) (MG X.K):=by intro pins s σ H x y v u Q I rx ry h;obtain⟨d,e,h1,h2,h3,q⟩:=h;unfold JS at hr;exact X_ I X.A d e x y v u h1 h2 rx ry (by omega) X.prog X.w _ _ ⟨.bl _,H,I,rfl,q⟩
theorem KM(hr:Room k A):A.units+60<cLine:=Nat.lt_of_le_of_lt (Nat.add_le_add_left (by decide:60≤64) _) hr.units
theorem Iy{n:String}:IZ X (.builtin "isinstance") (λxs H Q=>∃x t c b,xs=[x,.ty c]∧TyOf X.K H x (.type t)∧A0 X.K (.type t) (.type c)=some b∧Q (.bl b) H):=by intro pins s σ H xs us Q I r h;obtain⟨x,t,c,b,rfl,ty,e,q⟩:=h;obtain⟨u,w',rfl,ru,rw'⟩:=Kl r;cases rw';exact X7 I ru ty e λtk=>⟨.bl b,H,I.tok tk,rfl,q⟩
section
variable{p:Addr}{g:TG}{tc:TT}{te:TE}{Q:VK}
abbrev LP(p:Addr)(g:TG)(tc:TT)(te:TE)(ys:List V)(x:V)(σ:St)(H:Hp)(N:St→List V→Hp→Prop):Prop:=
 g x σ H λσ2 H2=>tc σ2 H2 λb H3=>if b=true then te σ2 H3 λy H4=>H4 p=some (.lst ys)∧N σ2 (ys++[y]) (GZ H4 p (.lst (ys++[y]))) else N σ2 ys H3
theorem Mk{n:Nat}{J:It}{js:Jj}(Pv:Nat→St→List V→Hp→Prop)(h0:Pv 0 (JF js σ) [] (GZ H p (.lst [])))
 (hl:∀i σ ys H,i≤n→Pv i σ ys H→H p=some (.lst ys)∧ys.length<Ag)
 (hgo:∀i σ ys H,i<n→Pv i σ ys H→J.go i H) (hst:∀σ ys H,Pv n σ ys H→J.stop n H)
 (hs:∀(i:Nat)x σ ys H H'(N:St→List V→Hp→Prop),i<n→J.yld i H x H'→Pv i σ ys H→(∀σ' ys' H',Pv (i+1) σ' ys' H'→N σ' ys' H')→LP p g tc te ys x σ H' N)
 (hd:∀σ ys H,Pv n σ ys H→Q (.ref p) H):
 JZ J p js g tc te σ H Q:=by
 refine⟨λi m σ ys H=>m=n - i∧i≤n∧Pv i σ ys H,⟨n,by simp,AX _,h0⟩,?_⟩;rintro i m σ ys H ⟨rfl,hi,pv⟩;obtain⟨q1,q2⟩:=hl i σ ys H hi pv;refine⟨q1,?_⟩;by_cases lt:i<n
 · exact .inr ⟨hgo i σ ys H lt pv,q2,λx H' y=>hs i x σ ys H H' (λσ2 ys2 H2=>∃m',m'<n - i∧m'=n - (i+1)∧i+1≤n∧Pv (i+1) σ2 ys2 H2) lt y pv λσ' ys' H' p'=>⟨n - (i+1),by omega,rfl,lt,p'⟩⟩
 · have e:i=n:=by omega
   subst e;exact .inl ⟨hst σ ys H pv,hd σ ys H pv⟩
theorem Mp{js:Jj}(Pv:Nat→St→List V→Hp→Prop)(h0:Pv 0 (JF js σ) [] (GZ H p (.lst [])))
 (hl:∀i σ ys H,i≤xs.length→Pv i σ ys H→SqL K H a xs∧H p=some (.lst ys)∧ys.length<Ag)
 (hs:∀(i:Nat)x σ ys H(N:St→List V→Hp→Prop),xs[i]?=some x→Pv i σ ys H→(∀σ' ys' H',Pv (i+1) σ' ys' H'→N σ' ys' H')→LP p g tc te ys x σ H N)
 (hd:∀σ ys H,Pv xs.length σ ys H→Q (.ref p) H):JZ (KY K a) p js g tc te σ H Q:=
 Mk (n:=xs.length) (J:=KY K a) (js:=js) (σ:=σ) (H:=H) (p:=p) (Q:=Q) (g:=g) (tc:=tc) (te:=te) Pv h0 (λi σ ys H hi pv=>(hl i σ ys H hi pv).2)
  (λi σ ys H hi pv=>⟨xs,xs[i],(hl i σ ys H (Bb hi) pv).1,by simp[hi]⟩) (λσ ys H pv=>⟨xs,(hl _ σ ys H (Ae _) pv).1,Ae _⟩)
  (λi x σ ys H H' N hi y pv hN=>by obtain⟨e,y⟩:=y;subst e;exact hs i x σ ys _ N (y xs (hl i σ ys _ (Bb hi) pv).1) pv hN) hd
theorem Ox{js:Jj}(Pv:Nat→St→List V→Hp→Prop)(h0:Pv 0 (JF js σ) [] (GZ H p (.lst [])))
 (hl:∀i σ ys H,i≤xs.length→Pv i σ ys H→SqT K H a xs∧H p=some (.lst ys)∧ys.length<Ag)
 (hs:∀(i:Nat)x σ ys H(N:St→List V→Hp→Prop),xs[i]?=some x→Pv i σ ys H→(∀σ' ys' H',Pv (i+1) σ' ys' H'→N σ' ys' H')→LP p g tc te ys x σ H N)
 (hd:∀σ ys H,Pv xs.length σ ys H→Q (.ref p) H):JZ (L9 K a) p js g tc te σ H Q:=
 Mk (n:=xs.length) (J:=L9 K a) (js:=js) (σ:=σ) (H:=H) (p:=p) (Q:=Q) (g:=g) (tc:=tc) (te:=te) Pv h0 (λi σ ys H hi pv=>(hl i σ ys H hi pv).2)
  (λi σ ys H hi pv=>⟨xs,xs[i],(hl i σ ys H (Bb hi) pv).1,by simp[hi]⟩) (λσ ys H pv=>⟨xs,(hl _ σ ys H (Ae _) pv).1,Ae _⟩)
  (λi x σ ys H H' N hi y pv hN=>by obtain⟨e,y⟩:=y;subst e;exact hs i x σ ys _ N (y xs (hl i σ ys _ (Bb hi) pv).1) pv hN) hd
theorem Lk{js:Jj}{lo:Int}{n:Nat}(Pv:Nat→St→List V→Hp→Prop)(h0:Pv 0 (JF js σ) [] (GZ H p (.lst [])))
 (hl:∀i σ ys H,i≤n→Pv i σ ys H→H p=some (.lst ys)∧ys.length<Ag)
 (hs:∀(i:Nat)σ ys H(N:St→List V→Hp→Prop),i<n→Pv i σ ys H→(∀σ' ys' H',Pv (i+1) σ' ys' H'→N σ' ys' H')→LP p g tc te ys (.int (lo+i)) σ H N)
 (hd:∀σ ys H,Pv n σ ys H→Q (.ref p) H):JZ (KW lo n) p js g tc te σ H Q:=
 Mk (n:=n) (J:=KW lo n) (js:=js) (σ:=σ) (H:=H) (p:=p) (Q:=Q) (g:=g) (tc:=tc) (te:=te) Pv h0 hl
  (λi σ ys H hi pv=>hi) (λσ ys H pv=>Ae n)
  (λi x σ ys H H' N hi y pv hN=>by obtain⟨e,y⟩:=y;subst e y;exact hs i σ ys _ N hi pv hN) hd
end
def SB(outer:Scope)(N N':List Str)(js:Jj)(scope:Scope):Bool:=
 decide (js.length=N'.length) && (scope.kind== .function) && scope.names.all (λp=>(p.2 != .cell || scope.names.lookup p.1==some .cell) && (p.2 != .local || scope.names.lookup p.1==some .local) && (p.2 != .free || (outer.names.lookup p.1==some .cell || outer.names.lookup p.1==some .free)))
  && (AY js.length).all λi=>match js[i]? with
   | some (some j)=>(match N'[i]? with | some x=>N[j]?==some x && scope.names.lookup x==some .free | none=>false)
   | _=>true
theorem IV{N N':List Str}{js:Jj}{outer:Scope}(h:SB outer N N' js scope=true)(hN:X.N=N:=by rfl)(ho:X.env.scope=outer:=by rfl):CapOk X N' js scope:=by
 subst hN ho;unfold SB at h;rw[A2,A2,A2] at h;obtain⟨⟨⟨h1,h2⟩,h3⟩,h4⟩:=h;rw[List.all_eq_true] at h3 h4;refine⟨of_decide_eq_true h1,eq_of_beq h2,λp hp e=>?_,λp hp e=>?_,λp hp e=>?_,λi j e=>?_⟩
 · have:=h3 p hp;rw[e] at this;simp at this;exact this
 · have:=h3 p hp;rw[e] at this;simp at this;exact this
 · have:=h3 p hp;rw[e] at this;simp at this;exact this
 · have hi:i<js.length:=(AM.mp e).1;have:=h4 i (Cc.mpr hi);rw[e] at this;simp only at this;cases q:N'[i]? with
   | none=>rw[q] at this;cases this
   | some x=> rw[q] at this;simp only[A2,beq_iff_eq] at this;exact⟨x,rfl,this.1,this.2⟩
def HR(P:Bk)(w:World)(K:Af)(mg:Str→Option Value)(base:Heap)(k:Nat)(x:Str)(ps:List Str)(sp:Sp):Prop:=
 ∃f fd,FnOk P w K mg base HH k f fd ps sp∧Binds K fd ps []∧Cp K (.ref f)=true∧mg x=some (.ref f)
section
variable{ps:List Str}{sp:Sp}{es:List Expr}{t:TA}{p:Pos}
theorem Hm(F:HR X.prog X.w X.K X.mg X.base k x ps sp)(hr:Room k X.A)(hg:Gl X x)(ha:PA X (e::es) t)(hdb:(x==("__debug__":Str))=false:=by decide)
 (he:A1 (e::es) X.env=(false,eval e X.env)::A1 es X.env:=by rfl) (hpl:(backTo pos (A1 es X.env)).any (·.1)=false:=by rfl):PE X (.Call (.Name x p) (e::es) [] pos) (Nf sp [] E0 t):=by
 obtain⟨f,fd,h1,h2,h3,h4⟩:=F;exact Se h1 hr hg h4 h3 h2 .nil UW ha hdb he hpl
end
structure Bl(mg:Str→Option Value):Prop where
 len_:mg "len"=none
 range_:mg "range"=none
 isinstance_:mg "isinstance"=none
 int_:mg "int"=none
 bool_:mg "bool"=none
 tuple_:mg "tuple"=none
 list_:mg "list"=none
 max_:mg "max"=none
 min_:mg "min"=none
 all_:mg "all"=none
 zip_:mg "zip"=none
 str_:mg "str"=none
 dict_:mg "dict"=none
 sorted_:mg "sorted"=none
 set_:mg "set"=none
 any_:mg "any"=none
 sum_:mg "sum"=none
 enumerate_:mg "enumerate"=none
 repr_:mg "repr"=none
 ord_:mg "ord"=none
 chr_:mg "chr"=none
 abs_:mg "abs"=none
 reversed_:mg "reversed"=none
theorem Ko:AO "int"=some (.type "int"):=by decide+kernel
theorem Nu:AO "bool"=some (.type "bool"):=by decide+kernel
theorem Js:AO "tuple"=some (.type "tuple"):=by decide+kernel
theorem Nv:AO "list"=some (.type "list"):=by decide+kernel
theorem KC:AO "str"=some (.type "str"):=by decide+kernel
theorem U2:AO "set"=some (.type "set"):=by decide+kernel
theorem HX:AO "isinstance"=some (.builtin "isinstance"):=by decide+kernel
theorem I_:AO "len"=some (.builtin "len"):=by decide+kernel
theorem QR:AO "max"=some (.builtin "max"):=by decide+kernel
theorem QS:AO "min"=some (.builtin "min"):=by decide+kernel
theorem LR:AO "all"=some (.builtin "all"):=by decide+kernel
theorem Xz:AO "sorted"=some (.builtin "sorted"):=by decide+kernel
theorem Ik(h:n≤5000):n≤Ag:=Bb (Il h)
theorem Hc{p:Addr}(h:H p=none)(o:HO):Same H (GZ H p o):=λb u q=>by rw[Hk (IE q h)];exact q
def eV:Option Int→V
 | none=> .non
 | some i=> .int i
def K7:Int:=618970019642690137449562111
structure Bag(H:Hp)(b g l:Addr)(n:Int):Prop where
 ex:∃(gs ls:List Int)(c st:Int),H b=some (.lst [.ref g,.ref l,.int c,.int st])∧H g=some (.lst (gs.map V.int))∧H l=some (.lst (ls.map V.int))∧
  gs.length≤63∧0<ls.length∧ls.length≤64∧(∀x∈ls,0≤x∧x<10^18)∧0≤c∧c≤n∧0≤st∧st<K7
 gl:g≠l
def SameB(b g:Addr)(H H':Hp):Prop:=∀a o,H a=some o→a≠b→a≠g→H' a=some o
theorem Bag.bg{g l:Addr}{n:Int}(B:Bag H b g l n):b≠g:=by
 obtain⟨gs,ls,c,st,h1,h2,_⟩:=B.ex;intro e;rw[e,h2] at h1;cases gs with
 | nil=>cases h1
 | cons x r=>injection h1 with h1;injection h1 with h1;injection h1 with h1 _;cases h1
theorem Bag.bl{g l:Addr}{n:Int}(B:Bag H b g l n):b≠l:=by
 obtain⟨gs,ls,c,st,h1,h2,h3,_⟩:=B.ex;intro e;rw[e,h3] at h1;cases ls with
 | nil=>cases h1
 | cons x r=>injection h1 with h1;injection h1 with h1;injection h1 with h1 _;cases h1
theorem Bag.mono{g l:Addr}{n m:Int}(B:Bag H b g l n)(h:n≤m):Bag H b g l m:=by obtain⟨⟨gs,ls,c,st,h1,h2,h3,h4,h5,h6,h7,h8,h9,h10⟩,gl⟩:=B;exact⟨⟨gs,ls,c,st,h1,h2,h3,h4,h5,h6,h7,h8,Int.le_trans h9 h,h10⟩,gl⟩
theorem Bag.same{H':Hp}{g l:Addr}{n:Int}(B:Bag H b g l n)(h:Same H H'):Bag H' b g l n:=by obtain⟨⟨gs,ls,c,st,h1,h2,h3,h4⟩,gl⟩:=B;exact⟨⟨gs,ls,c,st,h _ _ h1,h _ _ h2,h _ _ h3,h4⟩,gl⟩
theorem SameB.refl(b g:Addr)(H:Hp):SameB b g H H:=λ_ _ h _ _=>h
theorem SameB.trans{g:Addr}{H1 H2:Hp}(x:SameB b g H H1)(y:SameB b g H1 H2):SameB b g H H2:=λa o h n1 n2=>y a o (x a o h n1 n2) n1 n2
theorem Same.sameB{g:Addr}{H1:Hp}(x:Same H H1):SameB b g H H1:=λa o h _ _=>x a o h
theorem SameB.tup{g l:Addr}{n:Int}{H':Hp}(B:Bag H b g l n)(s:SameB b g H H')(h:H a=some (.tup xs)):H' a=some (.tup xs):=by obtain⟨gs,ls,c,st,h1,h2,_⟩:=B.ex;exact s a _ h (Ow h h1 (by intro z;cases z)) (Ow h h2 (by intro z;cases z))
theorem Bag.free{g l:Addr}{n:Int}(B:Bag H b g l n){p:Addr}(h:H p=none):p≠b∧p≠g∧p≠l:=by obtain⟨gs,ls,c,st,h1,h2,h3,_⟩:=B.ex;exact⟨(IE h1 h).symm,(IE h2 h).symm,(IE h3 h).symm⟩
theorem Yw{c:TT}{tb u:TS}{D:Ends}(W:Nat→St→Hp→Prop)(M:St→Hp→Prop)(h0:∃m,W m σ H)
 (hs:∀(m:Nat)σ H(Z:St→Hp→Prop),W m σ H→(∀σ' H',M σ' H'→Z σ' H')→c σ H λb H1=>if b=true then ∃N:St→Hp→Prop,(∀σ' H',N σ' H'→∃m',m'<m∧W m' σ' H')∧tb {nx:=N,rt:=D.rt,bk:=Z,ct:=N} σ H1 else Z σ H1)
 (hd:∀σ H,M σ H→u D σ H):K0 (Rk c tb) u D σ H:=⟨W,h0,λm σ H w=>hs m σ H (u D) w hd⟩
theorem Sl:∀ns:List Int,Reps K H (ns.map PD.int) (ns.map V.int)
 | []=>by show Reps K H [] [];rw[Reps]
 | n::ns=>by show Reps K H (.int n::ns.map PD.int) (.int n::ns.map V.int);rw[Reps];exact⟨_,_,rfl,by rw[GY],Sl ns⟩
theorem TQ:∀ns:List Int,Jc (ns.map PD.int)=0
 | []=>by show Jc []=0;rw[Jc]
 | n::ns=>by
  show Jc (.int n::ns.map PD.int)=0;rw[Jc,TQ ns,IL]
  all_goals simp
theorem QH{p:Addr}{ns:List Int}{Q:VK}(h:SqL K H a (ns.map V.int))(hp:SqL K H p [])(q:Q (.bl (!ns.isEmpty)) H):MG K (.ref a) (.ref p) H Q:=by
 refine⟨.lst (ns.map PD.int),.lst [],by rw[GY];exact⟨a,_,rfl,h,Sl ns⟩,by rw[GY];exact⟨p,_,rfl,hp,by rw[Reps]⟩,by rw[IL,TQ];decide,?_⟩;cases ns with
 | nil=>rw[Hw,show Jv (([]:List Int).map PD.int) []=true from M3 []];exact q
 | cons n ns=>rw[Hw,Ks (by simp)];exact q
theorem KR{α:Type}{x:α}{r:List α}:Ir (x::r) 0=some x:=Jh (j:=0) rfl
theorem Ui{α:Type}{x:α}{r:List α}:JY (x::r).length 0=some 0:=by unfold JY;rw[if_pos (by decide),if_pos (by rw[Ax];omega)];rfl
theorem U0{ls:List Int}{i:Int}(h0:0≤i)(h1:i<(ls.length:Int)):∃v,Ir (ls.map V.int) i=some (.int v)∧v∈ls:=by
 obtain⟨k,rfl⟩:=BH h0;have hk:k<ls.length:=by omega
 exact⟨ls[k],Jh (by rw[Ay,AQ hk];rfl),DG _⟩
theorem JO:(0:Nat)≤Ag:=AX _
def Ra:Sp:=λvs H Q _=>∃(b g l:Addr)(n many:Int),vs=[.ref b,.int many]∧Bag H b g l n∧n≤2^40∧0<many∧many<2^500∧
 ∀(r:Int)(H':Hp),0≤r→r<many→Bag H' b g l (n+1)→SameB b g H H'→Q (.int r) H'
def QC(K:Af):Sp:=λvs H Q _=>∃(a:Addr)(ns:List Int),vs=[.ref a]∧SqL K H a (ns.map V.int)∧ns.length≤63∧
 ∀(b g l:Addr)(H':Hp),Bag H' b g l 0→Same H H'→H b=none→H g=none→Q (.ref b) H'
theorem Jd{α:Type}{l:List α}{x:α}(h:l[i]?=some x):l.take (i+1)=l.take i++[x]:=by rw[List.take_succ,h];rfl
theorem R0{p:Addr}{Q:VK}{js:Jj}{cap:St}{tc:TT}{te:TE}(ns:List Int)(f:Int→Int)(c:Int→Bool)(hn:ns.length≤900)(e:SqL K H a (ns.map V.int))(hp:H p=none)(hσ:JF js σ=none::cap)
 (ht:∀n H'(R:Bool→Hp→Prop),Same H H'→R (c n) H'→tc (some (.int n)::cap) H' R) (he:∀n H'(R:VK),Same H H'→R (.int (f n)) H'→te (some (.int n)::cap) H' R)
 (hq:∀H',Same H H'→H' p=some (.lst (((ns.filter c).map f).map V.int))→Q (.ref p) H'):JZ (KY K a) p js (LF 0) tc te σ H Q:=by
 have s0:=Hc hp (.lst []);refine Mp (xs:=ns.map V.int) (λi σ' ys H'=>(∃v,σ'=v::cap)∧Same H H'∧H' p=some (.lst ys)∧ys=((((ns.take i).filter c).map f).map V.int)) ⟨⟨_,hσ⟩,s0,Ha,rfl⟩ ?_ ?_ ?_
 · rintro i σ' ys H' hi ⟨_,s,h1,h2⟩;refine⟨s.seq e,h1,?_⟩;rw[h2];simp only[Ab];have:=C6 c (ns.take i);rw[AE] at this;exact Il (by omega)
 · rintro i x σ' ys H' N hx ⟨⟨v,rfl⟩,s,h1,h2⟩ hN;rw[Ay] at hx;cases hn':ns[i]? with
   | none=>rw[hn'] at hx;cases hx
   | some n=>
    rw[hn'] at hx;have hx:V.int n=x:=Am hx;subst hx;refine ht n H' _ s ?_;have e1:=Jd hn';cases hc:c n with
    | true=>
     refine GX (he n H' _ s ⟨h1,hN _ _ _ ⟨⟨_,rfl⟩,?_,Ha,?_⟩⟩)
     · intro b o q;have:b≠p:=λz=>by rw[z,hp] at q;cases q
       rw[Hk this];exact s b o q
     · rw[h2,e1,Cw,Cq,if_pos hc];simp
    | false=> refine GW (hN _ _ _ ⟨⟨_,rfl⟩,s,h1,?_⟩);rw[h2,e1,Cw,Cq,if_neg (by rw[hc];exact Aw)];simp
 · rintro σ' ys H' ⟨_,s,h1,h2⟩;refine hq H' s ?_;rw[h1,h2,Ab,BR]
theorem Same.seqT{H':Hp}(e:Same H H')(h:SqT K H a xs):SqT K H' a xs:=by
 rcases h with(h | ⟨o,h⟩) | h
 · exact .inl (.inl (e _ _ h))
 · exact .inl (.inr ⟨o,e _ _ h⟩)
 · exact .inr h
end L2
set_option maxHeartbeats 1000000
namespace L2
theorem ObjOk.there{o:HO}(x:ObjOk P w H h a o):∃ob,h.get? a=some ob:=by
 cases o with
 | lst xs=>obtain⟨_,_,_,_,e⟩:=x;exact⟨_,e⟩
 | tup xs=>obtain⟨_,_,_,ob,e,_⟩:=x;exact⟨_,e⟩
 | dK kvs=>obtain⟨_,_,_,_,ob,_,_,e,_⟩:=x;exact⟨_,e⟩
 | dT kvs=>obtain⟨_,_,_,_,ob,_,_,e,_⟩:=x;exact⟨_,e⟩
 | set S n=>obtain⟨ob,_,_,_,e,_⟩:=x;exact⟨_,e⟩
 | ins C dx fs=>obtain⟨_,_,_,e,_⟩:=x;exact⟨_,e⟩
 | own y=>exact x
 | xd fs=>obtain⟨_,⟨ob,_,_,e,_⟩,_⟩:=x;exact⟨_,e⟩
 | rng lo hi=>obtain⟨_,_,_,e⟩:=x;exact⟨_,e⟩
 | frz ob u=>obtain⟨e,_⟩:=x;exact⟨_,e⟩
 | tbl ps=>exact⟨_,(show h.get? a=some _ from x)⟩
 | met f y=>exact⟨_,(show h.get? a=some _ from x)⟩
 | ext φ=>obtain⟨_,e,_⟩:=x;exact e
structure FlyB(base:Heap)(l:List Env)(s0:Shared)(a C:Addr)(H':Hp)(B:Heap)(t:Addr)(h:Heap):Prop where
 fl:DW B l a (.ref C) (.ref t) h
 bs:base.StaysIn B
 tr:∀b u,H' b=some u→∃o,B.get? b=some o
 old:∀b o,s0.heap.get? b=some o→b ∉ HN l→∃o',B.get? b=some o'
structure Fly(P:Bk)(w:World)(base:Heap)(l:List Env)(H:Hp)(s0:Shared)(a C:Addr)(H':Hp)(s':Shared):Prop where
 ex:∃(B:Heap)(t:Addr),FlyB base l s0 a C H' B t s'.heap
 os:s'.os=s0.os
 bare:AllBare s'.gens
 un:Un (HN l) [] H H' s0.heap s'.heap
 hok:HOk P w H' s'.heap
 free:H' a=none
def IQ(P:Bk)(w:World)(base:Heap):JR:=λouter H s E e s'=>∃(a C:Addr)(H':Hp),e= .ref a∧Fly P w base outer H s a C H' s'∧E (.ref C) none H'
section
variable{base:Heap}{l:List Env}{H':Hp}{s0 s':Shared}{C t:Addr}{B h':Heap}
theorem FlyB.same(f:FlyB base l s0 a C H' B t h'){h2:Heap}(st:B.StaysIn h2){o ob:Obj}(e:B.get? b=some ob)(e1:h'.get? b=some o):h2.get? b=some o:=by have:=f.fl.1 b ob e;rw[e1] at this;cases this;exact st b _ e
theorem Fly.go(f:Fly P w base l H s0 a C H' s')(F0:s0.heap.FunFrames base l){B:Heap}{t:Addr}(fb:FlyB base l s0 a C H' B t s'.heap)(fl2:DW B l a (.ref C) (.ref t) h')(up:s'.heap.UpToSlots h'):
 Fly P w base l H s0 a C H' {s' with heap:=h'}:=by
 have same:∀b o ob,B.get? b=some ob→s'.heap.get? b=some o→h'.get? b=some o:=λb o ob e e1=>fb.same fl2.1 e e1;refine⟨⟨B,t,fl2,fb.bs,fb.tr,fb.old⟩,f.os,f.bare,⟨λb o e n hb hx=>?_,λb o e n hb hx=>?_,λb o e n hx=>f.un.free b o e n hx,λb o e hx=>?_,f.un.tups,f.un.frzs,f.un.tbls⟩,λb u e=>?_,f.free⟩
 · obtain⟨o',eB⟩:=fb.old b o e hb;exact same b o o' eB (f.un.keep b o e n hb hx)
 · obtain⟨sl,e1⟩:=f.un.slot b o e n hb hx;obtain⟨_,o2,e2,nf⟩:=F0.mem hb;rw[e] at e2;cases e2;obtain⟨sl2,e3⟩:=up b _ e1 nf;exact⟨sl2,e3⟩
 · obtain⟨o',e1⟩:=f.un.there b o e hx;by_cases hb:b∈HN l
   · obtain⟨_,o2,e2,nf⟩:=F0.mem hb;rw[e] at e2;cases e2;by_cases hn:H b=none
     · obtain⟨sl,e3⟩:=f.un.slot b o e hn hb hx;obtain⟨sl2,e4⟩:=up b _ e3 nf;exact⟨_,e4⟩
     · by_cases hH':H' b=none
       · obtain⟨_,_,F3,_⟩:=fl2;obtain⟨_,o5,e5,_⟩:=F3.mem hb;exact⟨_,e5⟩
       · obtain⟨u,hu⟩:=Option.ne_none_iff_exists'.mp hH';obtain⟨oB,eB⟩:=fb.tr b u hu;exact⟨_,fl2.1 b oB eB⟩
   · obtain⟨oB,eB⟩:=fb.old b o e hb;exact⟨_,fl2.1 b oB eB⟩
 · refine(f.hok b u e).stay (λc v hc q=>?_) (λ_ q=>q) λ_ _ q=>q;rcases hc with rfl | hc
   · obtain⟨oB,eB⟩:=fb.tr c u e;exact same c v oB eB q
   · obtain⟨oB,eB⟩:=fb.tr c _ hc;exact same c v oB eB q
end
section
variable{H':Hp}{s':Shared}{C:Addr}
theorem Fly.inv(I:Inv X pins σ H s)(f:Fly X.prog X.w X.base X.stack H s a C H' s'):Inv X pins σ H' s':=
 I.call' f.os f.un f.hok f.bare λb z=>absurd z (by simp)
theorem Fly.leave{Q:Unit→Shared→Prop}{E:Value→Shared→Prop}(I:Inv X pins σ H s)(hst:X.stack=X.env::X.outer)(hf:X.env.frame=some X.env.locals)(hex:X.ex=[])(f:Fly X.prog X.w X.base X.stack H s a C H' s')
 (hQ:∀s'',Fly X.prog X.w X.base X.outer X.H₀ X.s₀ a C H' s''→Q () s''):wpAny (model X.prog X.w) X.A (leaving X.env (.ref a)) Q E s':=by
 obtain⟨B,t,fb⟩:=f.ex;have I':=f.inv I;have fl:=fb.fl;rw[hst] at fl;refine wpAny_leaves_onW (by rw[I.ok.frames,hst]) hf fl λh' fl' up=>hQ _ ?_;have same:∀b o ob,B.get? b=some ob→s'.heap.get? b=some o→h'.get? b=some o:=λb o ob e e1=>fb.same fl'.1 e e1;have nex:∀b:Addr,b ∉ X.ex:=λb=>by rw[hex];simp
 have old':∀b o,X.s₀.heap.get? b=some o→b ∉ HN X.outer→∃o',B.get? b=some o':=λb o e hb=>by
  obtain⟨o1,e1⟩:=I.base.there b o e (nex b);refine fb.old b o1 e1 λhm=>?_;rcases Au.mp (I.stkSub b hm) with z | z
  · exact absurd z (As (Av (Ao e) I.ok.above))
  · exact hb z
 refine⟨⟨B,t,fl',fb.bs,fb.tr,old'⟩,f.os.trans I.os,f.bare,⟨λb o e n hb _=>?_,λb o e n hb _=>?_,λb o e n _=>I'.base.free b o e n (nex b),λb o e _=>?_,I'.base.tups,I'.base.frzs,I'.base.tbls⟩,λb u e=>?_,f.free⟩
 · obtain⟨o',eB⟩:=old' b o e hb;exact same b o o' eB (I'.base.keep b o e n hb (nex b))
 · obtain⟨sl,e1⟩:=I'.base.slot b o e n hb (nex b);obtain⟨_,o2,e2,nf⟩:=I.ok.funs.mem hb;rw[e] at e2;cases e2;obtain⟨sl2,e3⟩:=up b _ e1 nf;exact⟨sl2,e3⟩
 · by_cases hb:b∈HN X.outer
   · obtain⟨_,o2,e2,nf⟩:=I.ok.funs.mem hb;rw[e] at e2;cases e2;obtain⟨sl,e1⟩:=I'.base.slot b o e (I.ok.frf b hb) hb (nex b);obtain⟨sl2,e3⟩:=up b _ e1 nf;exact⟨_,e3⟩
   · obtain⟨oB,eB⟩:=old' b o e hb;exact⟨_,fl'.1 b oB eB⟩
 · refine(f.hok b u e).stay (λc v hc q=>?_) (λ_ q=>q) λ_ _ q=>q;rcases hc with rfl | hc
   · obtain⟨oB,eB⟩:=fb.tr c u e;exact same c v oB eB q
   · obtain⟨oB,eB⟩:=fb.tr c _ hc;exact same c v oB eB q
end
def KQ(H:Hp)(a:Addr):Hp:=λb=>if b=a then none else H b
theorem OK:KQ H a a=none:=by unfold KQ;rw[if_pos rfl]
theorem KD(h:b≠a):KQ H a b=H b:=by unfold KQ;rw[if_neg h]
theorem Rt{u:HO}(h:KQ H a b=some u):b≠a∧H b=some u:=by
 by_cases e:b=a
 · rw[e,OK] at h;cases h
 · rw[KD e] at h;exact⟨e,h⟩
def Lb(e C:Addr)(h:Heap):Prop:=∃t,h.get? e=some {cls:= .ref C,data:= .fields #[.ref t,.none,.none,.none,.bool false,.none]}
abbrev IR(e C:Addr):HO:= .ext (Lb e C)
section
variable{e C:Addr}
theorem Inv.raise{Q:Unit→Shared→Prop}{E:Value→Shared→Prop}(I:Inv X pins σ H s)(hst:X.stack=X.env::X.outer)(hf:X.env.frame=some X.env.locals)(hex:X.ex=[])(he:H e=some (IR e C))(hn:X.s₀.heap.get? e=none)
 (hQ:∀s'',Fly X.prog X.w X.base X.outer X.H₀ X.s₀ e C (KQ H e) s''→Q () s''):wpAny (model X.prog X.w) X.A (leaving X.env (.ref e)) Q E s:=by
 obtain⟨⟨t,ee⟩,_,_⟩:=(show ObjOk X.prog X.w H s.heap e (.ext (Lb e C)) from I.hok e _ he);have nfr:e ∉ HN X.stack:=λz=>by rw[I.stkFree e z] at he;cases he
 have hin:∀env∈X.stack,∀b,env.frame=some b→b∈e::HN X.stack:=λenv hv b hb=>Az _ (Cd.mpr ⟨env,hv,hb⟩);have hl:s.heap.FunFrames (Bm s.heap (e::HN X.stack)) X.stack:=PySem.W.funFrames_hide I.stack hin;have st:(Bm s.heap (e::HN X.stack)).StaysIn s.heap:=λb o q=>Dr _ q;have nex:∀b:Addr,b ∉ X.ex:=λb=>by rw[hex];simp
 have nB:∀b o,s.heap.get? b=some o→b≠e→b ∉ HN X.stack→(Bm s.heap (e::HN X.stack)).get? b=some o:=λb o q h1 h2=>Ed _ q λhm=>by
  rcases Au.mp hm with z | z
  · exact h1 z
  · exact h2 z
 have hl:s.heap.FunFrames (Bm s.heap (e::HN X.stack)) (X.env::X.outer):=by have hl2:=hl;generalize Bm s.heap (e::HN X.stack)=Bh at hl2 ⊢;rw[hst] at hl2;exact hl2
 refine wpAny_leaving_firstW (base:=Bm s.heap (e::HN X.stack)) (a0:= .ref t) (by rw[I.ok.frames,hst]) hl hf ee st (Dd _ AD) rfl rfl rfl λh' hL=>hQ _ ?_;obtain⟨k1,⟨_,_,k2⟩,k3,up⟩:=hL;have same:∀b o,b≠e→b ∉ HN X.stack→s.heap.get? b=some o→h'.get? b=some o:=λb o h1 h2 q=>k1 b o (nB b o q h1 h2);have nst:∀b o,X.s₀.heap.get? b=some o→b ∉ HN X.outer→b ∉ HN X.stack:=λb o q hb hm=>by
  rcases Au.mp (I.stkSub b hm) with z | z
  · exact absurd z (As (Av (Ao q) I.ok.above))
  · exact hb z
 have ne0:∀b o,X.s₀.heap.get? b=some o→b≠e:=λb o q z=>by rw[z,hn] at q;cases q
 have neT:∀b u,H b=some u→u≠IR e C→b≠e:=λb u q h z=>by rw[z,he] at q;exact h (Am q).symm
 refine⟨⟨_,t,⟨k1,Dd _ AD,k2,k3⟩,λb o q=>?_,λb u q=>?_,λb o q hb=>?_⟩,I.os,I.bare,⟨λb o q n hb _=>?_,λb o q n hb _=>?_,λb o q n _=>?_,λb o q _=>?_,λb xs q=>?_,λb ob u q=>?_,λb ps q=>?_⟩,λb u q=>?_,OK⟩
 · refine nB b o (I.bk b o q) (λz=>?_) λhm=>?_
   · have:=(I.bs b o q).2;rw[z,he] at this;cases this
   · rcases Au.mp (I.stkSub b hm) with z | z
     · have:=(I.ok.bs b o q).1;rw[z] at this;exact absurd (Ao this) (Nat.not_lt.mpr I.ok.above)
     · exact I.ok.nofr q z
 · obtain⟨h1,h2⟩:=Rt q;obtain⟨ob,e1⟩:=(I.hok b u h2).there;exact⟨ob,nB b ob e1 h1 λz=>by rw[I.stkFree b z] at h2;cases h2⟩
 · obtain⟨o1,e1⟩:=I.base.there b o q (nex b);exact⟨o1,nB b o1 e1 (ne0 b o q) (nst b o q hb)⟩
 · exact same b o (ne0 b o q) (nst b o q hb) (I.base.keep b o q n hb (nex b))
 · obtain⟨sl,e1⟩:=I.base.slot b o q n hb (nex b);obtain⟨_,o2,e2,nf⟩:=I.ok.funs.mem hb;rw[q] at e2;cases e2;obtain⟨sl2,e3⟩:=up b _ e1 nf;exact⟨sl2,e3⟩
 · rw[KD (ne0 b o q)];exact I.base.free b o q n (nex b)
 · by_cases hb:b∈HN X.outer
   · obtain⟨_,o2,e2,nf⟩:=I.ok.funs.mem hb;rw[q] at e2;cases e2;obtain⟨sl,e1⟩:=I.base.slot b o q (I.ok.frf b hb) hb (nex b);obtain⟨sl2,e3⟩:=up b _ e1 nf;exact⟨_,e3⟩
   · obtain⟨o1,e1⟩:=I.base.there b o q (nex b);exact⟨_,same b o1 (ne0 b o q) (nst b o q hb) e1⟩
 · have:=I.base.tups b xs q;rw[KD (neT b _ this (by intro z;cases z))];exact this
 · have:=I.base.frzs b ob u q;rw[KD (neT b _ this (by intro z;cases z))];exact this
 · obtain⟨m,this⟩:=I.base.tbls b ps q;exact⟨m,by rw[KD (neT b _ this (by intro z;cases z))];exact this⟩
 · obtain⟨h1,h2⟩:=Rt q;refine(I.hok b u h2).stay (λc v hc r=>?_) (λc r=>?_) λc xs r=>?_
   · rcases hc with rfl | hc
     · exact same c v h1 (λz=>by rw[I.stkFree c z] at h2;cases h2) r
     · exact same c v (neT c _ hc (by intro z;cases z)) (λz=>by rw[I.stkFree c z] at hc;cases hc) r
   · rw[KD (neT c _ r (by intro z;cases z))];exact r
   · rw[KD (neT c _ r (by intro z;cases z))];exact r
end
structure BmOk(B:String)(bm:List Value):Prop where
 hasB:bm.contains (.type B)=true
 base:bm.contains (.type "BaseException")=true
 noA:bm.contains (.type "AttributeError")=false
 noN:bm.contains (.type "NameError")=false
theorem BmOk.cons{B:String}{bm:List Value}(O:BmOk B bm)(C:Addr):(Value.ref C::bm).contains (.type B)=true∧(Value.ref C::bm).contains (.type "BaseException")=true∧(Value.ref C::bm).contains (.type "AttributeError")=false∧(Value.ref C::bm).contains (.type "NameError")=false:=by
 refine⟨?_,?_,?_,?_⟩
 · rw[Dt,O.hasB,Bool.or_true]
 · rw[Dt,O.base,Bool.or_true]
 · rw[Dt,O.noA];rfl
 · rw[Dt,O.noN];rfl
section
variable{g:Array GenState}{d:Drawn}{t:Nat}{os:OsState}{nm q:Str}{C N:Addr}{bs bm bmB:List Value}{hdct:Bool}{sn:List Str}{sub:List Value}
variable{ab:Bool}{col:Option Bool}{dd:Option Addr}{k0 k1 k2 k3 k5:Option Value}{B newId initId:String}{rest:List Value}
theorem Wb{M:Model}(F:ExcBaseFacts B newId initId bmB)(O:BmOk B bm){Q:Unit→Shared→Prop}(hC:h.get? C=some (excClassObj nm q C N bs bm hdct sn sub ab col dd k0 k1 k2 k3 k5 newId))(hq:Q () ⟨h,g,d,t,os⟩):
 wpAny M A (checkBuiltinCall newId ⟨.ref C::rest,[]⟩) Q E ⟨h,g,d,t,os⟩:=by
 have cB:=(O.cons C).1;have star:=F.noStar;simp only[checkBuiltinCall,F.newKind,F.newSplit,F.newRow]
 repeat (first | (refine Cn hC ?_;rw[cB]) | refine Bp hC ?_ | refine wpAny_madeBy_exc hC ?_ | refine wpAny_staticBase_exc hC ?_ | simp only[bne_self_eq_false,Cv,if_false] | wp_step)
 exact hq
theorem Ux(F:ExcBaseFacts B newId initId bmB)(O:BmOk B bm){R:Result→Shared→Prop}(hC:h.get? C=some (excClassObj nm q C N bs bm hdct sn sub ab col dd k0 k1 k2 k3 k5 newId))(hz:rest.length≤Ag)
 (hq:R (.ok (.ret (.ref (h.objs.size+1)))) ⟨(h.push {cls:= .type "tuple",data:= .seq rest.toArray}).push {cls:= .ref C,data:= .fields #[.ref h.objs.size,.none,.none,.none,.bool false,.none]},g,d,t,os⟩):
 codeAny (model prog w) A (.builtin newId ⟨.ref C::rest,[]⟩) R ⟨h,g,d,t,os⟩:=by
 obtain⟨cB,_,cA,cN⟩:=O.cons C;have ends:=F.ends;refine codeAny_builtinAt F.entry ?_;unfold Builtin.«BaseException.__new__»;refine PySem.wpAt_bind ?_;show PySem.wpAt _ _ _ (stack>>=_) _ _ _;refine PySem.wpAt_bind (PySem.wpAt_stack λp below=>FD ?_)
 wp_walk
 refine FD ?_;rw[F.owner]
 repeat (first | with_reducible refine wpAny_madeHere_exc F.canon hC ?_ | (with_reducible refine Cn hC ?_;first | rw[cB] | rw[cA] | rw[cN]) | with_reducible refine Bp hC ?_ | wp_step)
 show R _ _;rw[AW];exact hq
theorem Y9(F:ExcBaseFacts B newId initId bmB)(O:BmOk B bm){Q:PySem.Fin→Shared→Prop}{fI:Addr}{oI:Obj}(hC:h.get? C=some (excClassObj nm q C N bs bm hdct sn sub ab col dd k0 k1 k2 k3 k5 newId))
 (hl:∀h',(∀b o,h.get? b=some o→h'.get? b=some o)→PySem.W.Looks (model prog w) h' (typeLookup (.ref C) "__init__") (some (.ref fI))) (hfI:h.get? fI=some oI) (hfc:oI.cls= .type "function") (hz:rest.length≤Ag)
 (hq:∀h' e,Heap.MadeExcOf h h' e (.ref C) rest→h.objs.size≤e→wpAny (model prog w) A (call (.ref fI) (.ref e::rest)) (λr s'=>r= .none∧Q (.done (.ret (.ref e))) s') E ⟨h',g,d,t,os⟩):
 wpAny (model prog w) A (Builtin.«type.__call__» ⟨.ref C::rest,[]⟩) Q E ⟨h,g,d,t,os⟩:=by
 repeat (first | with_reducible refine wpAny_madeBy_exc hC ?_ | with_reducible refine Bp hC ?_ | wp_step)
 refine codeAny_call_builtin_code (Du _ F.quiet) (Wb F O hC ?_);refine Ux F O hC hz ?_;show wpAny _ _ _ _ _ _;have kp:∀b o,h.get? b=some o→((h.push {cls:= .type "tuple",data:= .seq rest.toArray}).push {cls:= .ref C,data:= .fields #[.ref h.objs.size,.none,.none,.none,.bool false,.none]}).get? b=some o:=λb o e=>Ad _ (Ad _ e);have ge:((h.push {cls:= .type "tuple",data:= .seq rest.toArray}).push {cls:= .ref C,data:= .fields #[.ref h.objs.size,.none,.none,.none,.bool false,.none]}).get? (h.objs.size+1)=some {cls:= .ref C,data:= .fields #[.ref h.objs.size,.none,.none,.none,.bool false,.none]}:=by heap_get
 have gt:((h.push {cls:= .type "tuple",data:= .seq rest.toArray}).push {cls:= .ref C,data:= .fields #[.ref h.objs.size,.none,.none,.none,.bool false,.none]}).get? h.objs.size=some {cls:= .type "tuple",data:= .seq rest.toArray}:=Ad _ (Heap.get?_push_at rfl rfl);have hC1:=kp _ _ hC;have hL:=hl _ kp;have hf1:=kp _ _ hfI;have cC:(Value.ref C::bm).contains (.ref C)=true:=by simp
 have mk:=hq _ (h.objs.size+1) ⟨kp,De (Dm _),h.objs.size,ge,De (Ae _),gt⟩ (Dm _);unfold isInstance
 repeat (first | with_reducible refine Bp ge ?_ | (with_reducible refine Cn hC1 ?_;rw[cC]) | wp_step)
 show wpAny _ _ (typeLookup (.ref C) _) _ _ _;refine PySem.W.Looks.here hL ?_;refine Bn (Aa ?_);unfold bindSpecial;refine Aa (CL (T:="function") ⟨_,hf1,hfc⟩ ?_);rw[if_pos (by decide)];refine Ac (Aa (A9 mk (λr s' hr=>?_) λ_ _ x=>x));obtain⟨rfl,hQ⟩:=hr
 wp_walk
 exact hQ
theorem Vo(F:ExcBaseFacts B newId initId bmB)(O:BmOk B bm){Q:Value→Shared→Prop}{fI:Addr}{oI:Obj}(hC:h.get? C=some (excClassObj nm q C N bs bm hdct sn sub ab col dd k0 k1 k2 k3 k5 newId))
 (hl:∀h',(∀b o,h.get? b=some o→h'.get? b=some o)→PySem.W.Looks (model prog w) h' (typeLookup (.ref C) "__init__") (some (.ref fI))) (hfI:h.get? fI=some oI) (hfc:oI.cls= .type "function") (hz:rest.length≤Ag)
 (hq:∀h' e,Heap.MadeExcOf h h' e (.ref C) rest→h.objs.size≤e→wpAny (model prog w) (A.under (.builtin "type.__call__" ⟨.ref C::rest,[]⟩)) (call (.ref fI) (.ref e::rest)) (λr s'=>r= .none∧Q (.ref e) s') E ⟨h',g,d,t,os⟩):
 wpAny (model prog w) A (call (.ref C) rest) Q E ⟨h,g,d,t,os⟩:=by
 have l1:=tc_lookup;have l2:=tc_bind (.ref C);have isT:(⟨h,g,d,t,os⟩:Shared).TypeIs (.ref C) "type":=⟨_,hC,rfl⟩;refine Df (Fb ?_);show wpAny _ _ (callAny (.ref C) _) _ _ _
 repeat (any_goals (first | assumption | with_reducible refine Bp hC ?_ | wp_step))
 refine⟨rfl,codeAny_call_builtin_at (Du _ (by decide+kernel)) entry_typeCall (wpAny_check_type_call_sub hC (Y9 F O hC hl hfI hfc hz λh' e hm hs=>?_))⟩;exact hq h' e hm hs
end
section
variable{g:Array GenState}{d:Drawn}{t:Nat}{os:OsState}{nm q:Str}{C N:Addr}{bs bm bmB:List Value}{hdct:Bool}{sn:List Str}{sub:List Value}
variable{ab:Bool}{col:Option Bool}{dd:Option Addr}{k0 k1 k2 k3 k5:Option Value}{B newId initId:String}{rest:List Value}
theorem Zc{M:Model}(F:ExcBaseFacts B newId initId bmB)(O:BmOk B bm){e:Addr}{oe:Obj}{Q:Unit→Shared→Prop}(hC:h.get? C=some (excClassObj nm q C N bs bm hdct sn sub ab col dd k0 k1 k2 k3 k5 newId))(he:h.get? e=some oe)(hc:oe.cls= .ref C)
 (hq:Q () ⟨h,g,d,t,os⟩):wpAny M A (checkBuiltinCall initId ⟨.ref e::rest,[]⟩) Q E ⟨h,g,d,t,os⟩:=by
 have cB:=(O.cons C).1;have short:=F.noStar;simp only[checkBuiltinCall,F.initKind,F.initSplit,F.initRow]
 repeat (first | (with_reducible refine Cn hC ?_;rw[cB]) | (with_reducible refine Bp he ?_;rw[hc]) | with_reducible refine Bp hC ?_ | wp_step)
 refine DD ?_;have star:∀(a b:String)(n:Nat),Bind.check ⟨.positional,"*",B,.self,[⟨"args",.varPos,false⟩]⟩ a b n (List.map (λx=>x.fst) ({pos:=Value.ref e::rest}:Args).kw)=pure ():=λa b n=>check_star_args _ _ _ _ _ _;rw[star];exact Ac hq
theorem Vp(F:ExcBaseFacts B newId initId bmB)(O:BmOk B bm){e t0:Addr}{Q:Value→Shared→Prop}(hC:h.get? C=some (excClassObj nm q C N bs bm hdct sn sub ab col dd k0 k1 k2 k3 k5 newId))(hz:rest.length≤Ag)
 (he:h.get? e=some {cls:= .ref C,data:= .fields #[.ref t0,.none,.none,.none,.bool false,.none]})
 (hq:∀h' t1,(∀b o,b≠e→h.get? b=some o→h'.get? b=some o)→h'.get? e=some {cls:= .ref C,data:= .fields #[.ref t1,.none,.none,.none,.bool false,.none]}→Q .none ⟨h',g,d,t,os⟩):
 wpAny (model prog w) A (call (.builtin initId) (.ref e::rest)) Q E ⟨h,g,d,t,os⟩:=by
 refine Df (Ci F.init.plain F.initEntry (Zc F O hC he rfl ?_))
 wp_walk
 refine hq _ h.objs.size (λb o hb q=>?_) ?_
 · rw[BJ _ _ (By hb)];exact Ad _ q
 · rw[Bz _ (Ad _ he) rfl];rfl
end
def L3(K:Af)(C:Addr):Prop:=∃(nm q:Str)(N:Addr)(bs bm:List Value)(hdct:Bool)(sn:List Str)(sub:List Value)(ab:Bool)(col:Option Bool)(dd:Option Addr)(k0 k1 k2 k3 k5:Option Value),
 K.lookup C=some (excClassObj nm q C N bs bm hdct sn sub ab col dd k0 k1 k2 k3 k5 "ValueError.__new__")∧BmOk "ValueError" bm
structure XCls(K:Af)(C fI:Addr):Prop where
 ok:L3 K C
 init:BV K (.ref C) "__init__"=some (some (.ref fI))
 fn:∃oI,K.lookup fI=some oI∧oI.cls= .type "function"
 kp:Cp K (.ref C)=true
def O3(K:Af):Sp:=λvs H Q _=>∃(e C:Addr)(v:V),vs=[.ref e,v]∧H e=some (IR e C)∧L3 K C∧Q .non H
theorem SF{e C:Addr}:∀h1 h2:Heap,Lb e C h1→(∀o,h1.get? e=some o→h2.get? e=some o)→Lb e C h2:=λ_ _ ⟨t,x⟩ k=>⟨t,k _ x⟩
theorem Vx{o:HO}(h:H a=none):KQ (GZ H a o) a=H:=by
 funext b;by_cases e:b=a
 · rw[e,OK,h]
 · rw[KD e,Hk e]
theorem W2(K:Af):PySem.W.findCls K (.type "ValueError") (.type "type") "__init__"=some (.val (.builtin "ValueError.__init__")):=by kernel_rfl
def Vm(K:Af)(t:TA):TE:=λσ H Q=>t σ H λvs H1=>∃(e C:Addr)(v:V),vs=[.ref e,v]∧H1 e=some (IR e C)∧L3 K C∧Q .non H1
theorem WL{e1 e2:Expr}{t:TA}{p1 apos pos:Pos}(hg:Gl X "ValueError")(hm:X.mg "ValueError"=none)(ha:PA X [e1,e2] t)
 (hst:A1 [e1,e2] X.env=(false,eval e1 X.env)::A1 [e2] X.env:=by rfl) (hpl:(backTo pos (A1 [e2] X.env)).any (·.1)=false:=by rfl) {pl:Sem Bool}
 (ht:eval (.Call (.Attribute (.Name "ValueError" p1) "__init__" apos) [e1,e2] [] pos) X.env=(do
  let ov ←eval (.Name "ValueError" p1) X.env
  standAt apos.atName
  let(f,first) ←holding [ov] (getMethod ov "__init__" pl)
  callWith pos f first (backTo pos (A1 [e1,e2] X.env)) (backToKw pos (keywordEach [] X.env))):=by rfl):
 PE X (.Call (.Attribute (.Name "ValueError" p1) "__init__" apos) [e1,e2] [] pos) (Vm X.K t):=by
 intro pins s σ H Q I h;refine PySem.W.methodCall_KW (pl:=pl) (KE I hg hm (show AO "ValueError"=some (.type "ValueError") by decide+kernel) ?_ (by decide) (by decide)) ht;obtain⟨m,F⟩:=I.fr;refine PySem.W.method_type (v:= .builtin "ValueError.__init__") F I.ok.mod.kin (by rfl) (by decide+kernel) (W2 X.K) (by decide+kernel) ?_;have I1:=I.tok (s.toks+1);refine CW (He (ha pos pins _ σ H _ I1 h) λus s1 ⟨vs,H1,I2,r1,e,C,v,hv,hx,⟨nm,q,N,bs,bm,hdct,sn,sub,ab,col,dd,k0,k1,k2,k3,k5,hC,O⟩,q1⟩=>?_) hst hpl;subst hv;obtain⟨u1,u2,rfl,ru,_⟩:=Kl r1;obtain rfl:u1=Value.ref e:=ru;obtain⟨⟨t0,ee⟩,_,_⟩:=(show ObjOk X.prog X.w H1 s1.heap e (.ext (Lb e C)) from I2.hok e _ hx);have hC':=I2.kIn _ _ hC;obtain⟨hh,g,d,tk,os⟩:=s1;refine Vp E5 O hC' (by show 1≤Ag;decide) ee λh' t1 kp e1'=>?_;have hn:Lb e C h':=⟨t1,e1'⟩;have I3:Inv X pins σ (GZ H1 e (IR e C)) {heap:=h',gens:=g,drawn:=d,toks:=tk,os:=os}:=
  I2.write (x:=e) (e:=e) (by rw[hx];trivial) (.inl rfl) kp ⟨_,e1'⟩ ⟨hn,⟨_,e1'⟩,SF⟩
 have eH:GZ H1 e (IR e C)=H1:=by
  funext b;by_cases hb:b=e
  · rw[hb,Ha,hx]
  · rw[Hk hb]
 rw[eH] at I3;exact⟨.non,H1,I3,rfl,q1⟩
def QQ(X:Cx)(E:XK):Prop:=∀(pins:List (Addr×Obj))(σ:St)(H:Hp)(s:Shared)(e C:Addr),Inv X pins σ H s→H e=some (IR e C)→X.s₀.heap.get? e=none→E (.ref C) none (KQ H e)→X.xe (.ref e) s
section
variable{mg:Str→Option Value}{base:Heap}{N:List Str}{qual:Str}{f:Addr}{cd:Value}{outer:List Env}{E:XK}
theorem Ym:QQ (Ic (IQ P w base) P w K mg base N qual scope f cd A outer s H E) E:=λpins σ H' s' e C I he hn hE=>I.raise rfl rfl rfl he hn λs'' fly=>⟨e,C,_,rfl,fly,hE⟩
theorem Xy:Nm (IQ P w base) (Ic (IQ P w base) P w K mg base N qual scope f cd A outer s H E) E:=λpins σ H1 s1 e s' I hx=>by obtain⟨a,C,H',rfl,fl,q⟩:=hx;exact fl.leave I rfl rfl rfl λs'' f'=>⟨a,C,H',rfl,f',q⟩
theorem Fun.okX{st:Stmt}{fd:Bf}{ps:List Str}{k:Nat}{sp:Sp}(F:Fun K x qual st f fd)(S:FnScope N ps (Hg st))(len:∀vs H Q E,sp vs H Q E→vs.length=ps.length)
 (hbody:∀(cdv:Value)(A:Bq)(outer:List Env)(s:Shared)(H:Hp)(vs:List V)(Q:VK)(E:XK),Room k (A.deeper (envOfC qual (Hg st) s.heap.objs.size f cdv))→sp vs H Q E→
  ∃t,PSs (Ic (IQ P w base) P w K mg base N qual (Hg st) f cdv A outer s H E) (Ji st) t∧t {nx:=λ_ H'=>Q .non H',rt:=Q} (Kk N vs) H):FnOk P w K mg base (IQ P w base) (k+1) f fd ps sp:=by
 obtain⟨oc,od,kV,doc,pm,an,cdv,ct,osl,rfl,lk,hcd⟩:=F.ex;exact QB lk hcd S len λA outer s H vs Q E hr hsp=>hbody cdv A outer s H vs Q E hr hsp
end
def IK(P:Bk)(w:World)(K:Af)(mg:Str→Option Value)(base:Heap)(k:Nat)(x:Str)(ps:List Str)(sp:Sp):Prop:=
 ∃f fd,FnOk P w K mg base (IQ P w base) k f fd ps sp∧Binds K fd ps []∧Cp K (.ref f)=true∧mg x=some (.ref f)
section
variable{mg:Str→Option Value}{base:Heap}{N:List Str}{qual:Str}{f:Addr}{cd:Value}{outer:List Env}{E:XK}
theorem J7{ps:List Str}{sp:Sp}{e:Expr}{es:List Expr}{t:TA}{p pos:Pos}(F:IK P w K mg base k x ps sp)(hr:Room k (A.deeper (envOfC qual scope s.heap.objs.size f cd)))(hg:Gl (Ic (IQ P w base) P w K mg base N qual scope f cd A outer s H E) x)
 (ha:PA (Ic (IQ P w base) P w K mg base N qual scope f cd A outer s H E) (e::es) t) (hdb:(x==("__debug__":Str))=false:=by decide)
 (he:A1 (e::es) (envOfC qual scope s.heap.objs.size f cd)=(false,eval e (envOfC qual scope s.heap.objs.size f cd))::A1 es (envOfC qual scope s.heap.objs.size f cd):=by rfl) (hpl:(backTo pos (A1 es (envOfC qual scope s.heap.objs.size f cd))).any (·.1)=false:=by rfl):
 PE (Ic (IQ P w base) P w K mg base N qual scope f cd A outer s H E) (.Call (.Name x p) (e::es) [] pos) (Nf sp [] E t):=by
 obtain⟨f',fd,h1,h2,h3,h4⟩:=F;exact Se (X:=Ic (IQ P w base) P w K mg base N qual scope f cd A outer s H E) h1 hr hg h4 h3 h2 .nil Xy ha hdb he hpl
end
section
variable{E:XK}{C fI:Addr}{fd:Bf}{e1:Expr}{t:TA}{np cpos:Pos}
def Vk(C:Addr)(E:XK)(t:TA):TS:=λ_ σ H=>t σ H λvs H1=>∃v,vs=[v]∧E (.ref C) none H1
theorem WO(hR:QQ X E)(hc:X.calm=true)(T:XCls X.K C fI)(hg:Gl X x)(hm:X.mg x=some (.ref C))(F:FnOk X.prog X.w X.K X.mg X.base HH k fI fd ["self","text"] (O3 X.K))(hb:Binds X.K fd ["self","text"] [])(hr:Room (k+1) X.A)
 (ha:PA X [e1] t) (hdb:(x==("__debug__":Str))=false:=by decide) (he:A1 [e1] X.env=(false,eval e1 X.env)::A1 [] X.env:=by rfl) (hpl:(backTo cpos (A1 [] X.env)).any (·.1)=false:=by rfl):
 PS X (.Raise (some (.Call (.Name x np) [e1] [] cpos)) none pos) (Vk C E t):=by
 intro pins s σ H D I h;obtain⟨nm,q,N,bs,bm,hdct,sn,sub,ab,col,dd,k0,k1,k2,k3,k5,hC,O⟩:=T.ok;obtain⟨oI,lI,cI⟩:=T.fn;have made:wpAny (model X.prog X.w) X.A (eval (.Call (.Name x np) [e1] [] cpos) X.env) (λv s₁=>∃e t,v= .ref e∧s₁.heap.get? C=some (excClassObj nm q C N bs bm hdct sn sub ab col dd k0 k1 k2 k3 k5 "ValueError.__new__")∧
  s₁.heap.get? e=some {cls:= .ref C,data:= .fields #[.ref t,.none,.none,.none,.bool false,.none]}∧X.xe (.ref e) s₁) X.xe s:=by
  refine BP (Mq I hg hm ?_ hdb);refine Ep (h₀:=X.base) I.ok.mod.kin T.kp (He (ha cpos pins s σ H _ I h) λus s1 ⟨vs,H1,I1,r,v,hv,q1⟩=>⟨I1.kIn,?_⟩) he hpl;subst hv;obtain⟨u1,rfl,ru⟩:=J3 r;have sz:=I1.sz;have Kx:=I1.kIn;obtain⟨hh,g,d,tk,os⟩:=s1;refine Vo E5 O (Kx _ _ hC) (λh' kp=>PySem.W.looks_findIn (Kx.keeps kp) T.init) (Kx _ _ lI) cI (by show 1≤Ag;decide) λh' e mk hs=>?_;obtain⟨tt,ee,_,_⟩:=mk.there;have ne:H1 e=none:=I1.hok.fresh hs;have I2:Inv X pins σ (GZ H1 e (IR e C)) {heap:=h',gens:=g,drawn:=d,toks:=tk,os:=os}:=I1.laid mk.keeps hs ⟨⟨tt,ee⟩,⟨_,ee⟩,SF⟩;refine Df (Ch (F.run _ X.stack _ _ ⟨[Value.ref e,u1],[]⟩ [Value.ref e,u1] [V.ref e,v] (λv' H'=>v'= .non∧H'=GZ H1 e (IR e C)) E0 (hr.make C [u1] []) (I2.env0.make C [u1] []) (hb _ [Value.ref e,u1] I2.kIn rfl) (.cons rfl (.cons ru .nil)) ⟨e,C,v,rfl,Ha,T.ok,rfl,rfl⟩) λr s' hq=>?_);cases r with
  | error x=>exact hq.elim
  | ok fl=>
   cases fl with
   | ret u=>
    obtain⟨v',H',I3,rv,rfl,rfl⟩:=I2.after hq;obtain⟨⟨t3,e3⟩,_,_⟩:=(show ObjOk X.prog X.w (GZ H1 e (IR e C)) s'.heap e (.ext (Lb e C)) from I3.hok e _ Ha);refine⟨rv,e,t3,rfl,I3.kIn _ _ hC,e3,hR pins σ _ s' e C I3 Ha ?_ ?_⟩
    · exact De (A8 sz hs)
    · rw[Vx ne];exact q1
   | next=>exact hq.elim
   | brk=>exact hq.elim
   | cont=>exact hq.elim
 have hh:X.A.handled=none:=I.ok.hd hc;rw[arm_exec_Raise];refine Aa (Dj ?_);refine wpAny_raiseStmt_made_sub (C:=C) (nm:=nm) (q:=q) (N:=N) (bs:=bs) (bm:=bm) (hdct:=hdct) (sn:=sn) (sub:=sub) (ab:=ab) (col:=col) (dd:=dd) (k0:=k0) (k1:=k1) (k2:=k2) (k3:=k3) (k5:=k5) (newId:="ValueError.__new__") O.base hh ?_;exact Aa (A9 made (λv s₃ h₃=>Aa (Dj (Ac h₃))) λ_ _ x=>x)
end
abbrev J9(a C:Addr):HO:= .ext (λh=>∃o,h.get? a=some o∧o.cls= .ref C)
section
variable{o:HO}
theorem Inv.track(I:Inv X pins σ H s)(hn:H a=none)(h0:X.s₀.heap.get? a=none)(hl:a≠X.env.locals)(hc:∀x c,X.env.cells.lookup x=some c→c≠a)(hp:∀p∈X.pn++pins,p.1≠a)(new:ObjOk X.prog X.w (GZ H a o) s.heap a o):Inv X pins σ (GZ H a o) s:=by
 refine⟨I.ok,I.os,I.bare,⟨I.base.keep,I.base.slot,λb ob q n hx=>?_,I.base.there,λb xs q=>?_,λb ob u q=>?_,λb ps q=>?_⟩,I.loc,I.cell,?_,λx c e=>?_,λp hp'=>?_,λb u q=>?_,I.len⟩
 · have:b≠a:=λz=>by rw[z,h0] at q;cases q
   rw[Hk this];exact I.base.free b ob q n hx
 · have:=I.base.tups b xs q;rw[Hk (IE this hn)];exact this
 · have:=I.base.frzs b ob u q;rw[Hk (IE this hn)];exact this
 · obtain⟨m,this⟩:=I.base.tbls b ps q;exact⟨m,by rw[Hk (IE this hn)];exact this⟩
 · rw[Hk hl.symm];exact I.free
 · rw[Hk (hc x c e)];exact I.freeC x c e
 · obtain⟨e,n,r⟩:=I.pin p hp';exact⟨e,by rw[Hk (hp p hp')];exact n,r⟩
 · by_cases hb:b=a
   · subst hb;rw[Ha] at q;cases q;exact new
   · rw[Hk hb] at q;exact(I.hok b u q).stay (λc v _ r=>r) (λc r=>by rw[Hk (IE r hn)];exact r) λc xs r=>by rw[Hk (IE r hn)];exact r
theorem NK{M:Model}{A:Bq}{E:Value→Shared→Prop}{n:Str}{pos:Pos}{Q:Unit→Shared→Prop}(I:Inv X pins σ H s)(hN:X.N.Nodup)(hi:X.N[i]?=some n)(hk:X.env.kindOf n=some .local)
 (h:∀s',Inv X pins (σ.set i none) H s'→Q () s'):wpAny M A (do bindName X.env n .none;unbindBehindTheSuite X.env n pos) Q E s:=by
 obtain⟨m,hn,hl⟩:=id I.loc;have hcls:(X.env.scope.kind== .class || (X.env.scope.kind== .module && X.env.locals !=X.env.globals))=false:=by rw[I.ok.kind];rfl
 refine wpAny_nameGoes_keeps hk hn hcls λh' v hn' hs=>h _ ?_;have cne:=I.cne;have up:∀b o,X.s₀.heap.get? b=some o→b≠X.env.locals:=λb o e=>As (Av (Ao e) I.ok.above);refine⟨I.ok,I.os,I.bare,⟨λb o e n hb hx=>(hs.2 b (up b o e)).trans (I.base.keep b o e n hb hx),λb o e n hb hx=>?_,I.base.free,λb o e hx=>?_,I.base.tups,I.base.frzs,I.base.tbls⟩,⟨_,hn',λj y v' e1 e2 e3=>?_⟩,λy c e=>?_,I.free,I.freeC,λp hp=>?_,λb u e=>?_,by simpa using I.len⟩
 · obtain⟨sl,e1⟩:=I.base.slot b o e n hb hx;exact⟨sl,(hs.2 b (up b o e)).trans e1⟩
 · obtain⟨o',e1⟩:=I.base.there b o e hx;exact⟨o',(hs.2 b (up b o e)).trans e1⟩
 · have hji:j≠i:=λz=>by
    subst z;rw[List.getElem?_set] at e2
    split at e2
    · split at e2<;>cases e2
    · rename_i q;exact q rfl
   rw[DP (By hji)] at e2;obtain⟨u',r',q⟩:=hl j y v' e1 e2 e3;refine⟨u',r',?_⟩;rcases q with⟨k,e⟩ | ⟨k,c,e,z⟩
   · refine .inl ⟨k,?_⟩;have:y≠n:=λe=>hji (OQ hN e1 (e ▸ hi));simp[this,e]
   · exact .inr ⟨k,c,e,z.sameBut hs (cne y c e)⟩
 · obtain⟨w',z⟩:=I.cell y c e;exact⟨w',z.sameBut hs (cne y c e)⟩
 · obtain⟨e,n,ne,nf,d⟩:=I.pin p hp;exact⟨(hs.2 p.1 ne).trans e,n,ne,nf,d⟩
 · refine(I.hok b u e).stay (λc v hc q=>(hs.2 c λz=>?_).trans q) (λ_ q=>q) λ_ _ q=>q;rcases hc with z2 | z2
   · rw[←z2,z,I.free] at e;cases e
   · rw[z,I.free] at z2;cases z2
end
abbrev Cx.inX(X:Cx)(a:Addr):Cx:={X with A:=X.A.mark (some (.ref a)),calm:=false,xe:=λ_ _=>False}
theorem Inv.inX(I:Inv X pins σ H s)(a:Addr):Inv (X.inX a) pins σ H s:=
 ⟨⟨I.ok.mod,I.ok.kind,I.ok.glob,I.ok.blt,I.ok.above,I.ok.inj,I.ok.has,I.ok.cab,λz=>(by cases z),I.ok.frames,I.ok.stk,I.ok.exf,I.ok.bs,I.ok.bsz,I.ok.noex,I.ok.exfs,I.ok.funs,I.ok.frf⟩,I.os,I.bare,I.base,I.loc,I.cell,I.free,I.freeC,I.pin,I.hok,I.len⟩
theorem Inv.outX(ok:X.Ok)(I:Inv (X.inX a) pins σ H s):Inv X pins σ H s:=⟨ok,I.os,I.bare,I.base,I.loc,I.cell,I.free,I.freeC,I.pin,I.hok,I.len⟩
def XE(X:Cx)(RR:St→Value→Hp→Prop)(pins:List (Addr×Obj)):Value→Shared→Prop:=λe s'=>
 ∃(a C:Addr)(H0:Hp)(s0:Shared)(σ':St)(H':Hp),e= .ref a∧Inv X pins σ' H0 s0∧Fly X.prog X.w X.base X.stack H0 s0 a C H' s'∧RR σ' (.ref C) H'
abbrev Cx.tryX(X:Cx)(RR:St→Value→Hp→Prop)(pins:List (Addr×Obj)):Cx:={X with pn:=X.pn++pins,xe:=XE X RR pins}
section
variable{pins':List (Addr×Obj)}{RR:St→Value→Hp→Prop}
theorem Inv.tryX(I:Inv X pins σ H s)(RR:St→Value→Hp→Prop):Inv (X.tryX RR pins) [] σ H s:=
 ⟨⟨I.ok.mod,I.ok.kind,I.ok.glob,I.ok.blt,I.ok.above,I.ok.inj,I.ok.has,I.ok.cab,I.ok.hd,I.ok.frames,I.ok.stk,I.ok.exf,I.ok.bs,I.ok.bsz,I.ok.noex,I.ok.exfs,I.ok.funs,I.ok.frf⟩,I.os,I.bare,I.base,I.loc,I.cell,I.free,I.freeC,λp hp=>I.pin p (by rw[DR] at hp;exact hp),I.hok,I.len⟩
theorem Inv.outTry(I:Inv (X.tryX RR pins) pins' σ H s):Inv X pins σ H s:=
 ⟨⟨I.ok.mod,I.ok.kind,I.ok.glob,I.ok.blt,I.ok.above,I.ok.inj,I.ok.has,I.ok.cab,I.ok.hd,I.ok.frames,I.ok.stk,I.ok.exf,I.ok.bs,I.ok.bsz,I.ok.noex,I.ok.exfs,I.ok.funs,I.ok.frf⟩,I.os,I.bare,I.base,I.loc,I.cell,I.free,I.freeC,λp hp=>I.pin p (Cg _ hp),I.hok,I.len⟩
theorem SP.outTry{D:Ends}{f:Flow}{s':Shared}(h:SP (X.tryX RR pins) pins' D f s'):SP X pins D f s':=by
 cases f with
 | next=>obtain⟨σ',H',I,q⟩:=h;exact⟨σ',H',I.outTry,q⟩
 | brk=>obtain⟨σ',H',I,q⟩:=h;exact⟨σ',H',I.outTry,q⟩
 | cont=>obtain⟨σ',H',I,q⟩:=h;exact⟨σ',H',I.outTry,q⟩
 | ret u=>obtain⟨v,σ',H',I,r,q⟩:=h;exact⟨v,σ',H',I.outTry,r,q⟩
def Vi(sp:Sp)(RR:St→Value→Hp→Prop)(t:TA):TE:=λσ H Q=>t σ H λvs H1=>sp vs H1 Q (λcls _ H'=>RR σ cls H')
theorem Nt{ps:List Str}{sp:Sp}{es:List Expr}{t:TA}{p pos:Pos}(F:IK X.prog X.w X.K X.mg X.base k x ps sp)(hr:Room k X.A)(hg:Gl X x)(ha:PA (X.tryX RR pins) (e::es) t)(hdb:(x==("__debug__":Str))=false:=by decide)
 (he:A1 (e::es) X.env=(false,eval e X.env)::A1 es X.env:=by rfl) (hpl:(backTo pos (A1 es X.env)).any (·.1)=false:=by rfl):PE (X.tryX RR pins) (.Call (.Name x p) (e::es) [] pos) (Vi sp RR t):=by
 obtain⟨f,fd,F1,h2,h3,h4⟩:=F;intro pins2 s σ H Q I h;refine BP (Mq I hg h4 ?_ hdb);refine Ep (h₀:=X.base) I.ok.mod.kin h3 (He (ha pos pins2 s σ H _ I h) λus s1 ⟨vs,H1,I1,r,q⟩=>⟨I1.kIn,?_⟩) he hpl;have hl:us.length=ps.length:=by rw[←r.length];exact F1.len _ _ _ _ q
 have hb:=h2 s1 us I1.kIn (by rw[DR];exact hl);rw[DR] at hb;refine Df (Ch (F1.run X.A X.stack s1 H1 ⟨us,[]⟩ us vs Q _ hr I1.outTry.env0 hb r q) λr s' hq=>?_);cases r with
 | error e=> obtain⟨a,C,H',rfl,fl,q'⟩:=hq;exact⟨a,C,H1,s1,σ,H',rfl,I1.outTry,fl,q'⟩
 | ok fl=>
  cases fl with
  | ret u=>exact I1.after hq
  | next=>exact B_ hq
  | brk=>exact B_ hq
  | cont=>exact B_ hq
end
section
variable{base:Heap}{l:List Env}{H':Hp}{s0 s':Shared}{C t:Addr}{B:Heap}
theorem Fly.fresh(f:Fly P w base l H s0 a C H' s')(F0:s0.heap.FunFrames base l)(hfree:∀b∈HN l,H b=none):s0.heap.get? a=none:=by
 obtain⟨B,t,fb⟩:=f.ex;cases q:s0.heap.get? a with
 | none=>rfl
 | some o=>
  by_cases hm:a∈HN l
  · obtain⟨_,o2,e2,nf⟩:=F0.mem hm;rw[q] at e2;cases e2;obtain⟨sl,e3⟩:=f.un.slot a o q (hfree a hm) hm (by simp);obtain⟨_,_,_,oe,vs,T,oT,ts,h1,_,h2,_⟩:=fb.fl;rw[e3] at h1;cases h1;exact absurd h2 (nf vs)
  · obtain⟨oB,eB⟩:=fb.old a o q hm;have:=fb.fl.2.1;rw[eB] at this;cases this
end
section
variable{M:Model}{g:Array GenState}{d:Drawn}{t:Nat}{os:OsState}{nm q nm0 q0:Str}{C N C0 N0 e:Addr}{bs bm bs0 bm0:List Value}{hdct hdct0:Bool}{sn sn0:List Str}{sub sub0:List Value}
variable{ab ab0:Bool}{col col0:Option Bool}{dd dd0:Option Addr}{k0 k1 k2 k3 k5 j0 j1 j2 j3 j5:Option Value}{newId newId0:String}{oe:Obj}
theorem XM{Q:Bool→Shared→Prop}(hC:h.get? C=some (excClassObj nm q C N bs bm hdct sn sub ab col dd k0 k1 k2 k3 k5 newId))(hC0:h.get? C0=some (excClassObj nm0 q0 C0 N0 bs0 bm0 hdct0 sn0 sub0 ab0 col0 dd0 j0 j1 j2 j3 j5 newId0))(O0:BmOk "ValueError" bm0)
 (hs:(Value.ref C::bm).contains (.ref C0)=true) (he:h.get? e=some oe) (hc:oe.cls= .ref C) (hq:Q true ⟨h,g,d,t,os⟩):wpAny M A (excMatches (.ref e) (.ref C0)) Q E ⟨h,g,d,t,os⟩:=by
 have cB:=(O0.cons C0).2.1;have nt:=tc_notTuple;unfold excMatches
 repeat (first | (with_reducible refine Cn hC0 ?_;rw[cB]) | (with_reducible refine Cn hC ?_;rw[hs]) | (with_reducible refine Bp he ?_;rw[hc]) | with_reducible refine Bp hC0 ?_ | wp_step)
 exact hq
end
def MX(K:Af)(C C0:Addr):Prop:=∃(nm q:Str)(N:Addr)(bs bm:List Value)(hdct:Bool)(sn:List Str)(sub:List Value)(ab:Bool)(col:Option Bool)(dd:Option Addr)(k0 k1 k2 k3 k5:Option Value),
 K.lookup C=some (excClassObj nm q C N bs bm hdct sn sub ab col dd k0 k1 k2 k3 k5 "ValueError.__new__")∧(Value.ref C::bm).contains (.ref C0)=true
def PQ(K:Af)(C0:Addr)(i:Nat)(tb:(St→Value→Hp→Prop)→TS)(ts:TS):TS:=λD σ H=> tb (λσ' cls H'=>∃C,cls= .ref C∧MX K C C0∧∀a,H' a=none→ts {nx:=λσ2 H2=>D.nx (σ2.set i none) H2,rt:=D.rt,bk:=λσ2 H2=>D.bk (σ2.set i none) H2,ct:=λσ2 H2=>D.ct (σ2.set i none) H2} (σ'.set i (some (.ref a))) (GZ H' a (J9 a C))) D σ H
section
variable{C0:Addr}{n:Str}{body suite:List Stmt}{b₀:Stmt}{np hpos:Pos}{tb:(St→Value→Hp→Prop)→TS}{ts:TS}
theorem VC(hex:X.ex=[])(hst:X.stack=X.env::X.outer)(hf:X.env.frame=some X.env.locals)(hN:X.N.Nodup)(hi:X.N[i]?=some n)(hk:X.env.scope.names.lookup n=some .local)(hk2:X.env.kindOf n=some .local)(hg:Gl X x)(hm:X.mg x=some (.ref C0))(O:L3 X.K C0)
 (hb:∀RR pins,PSs (X.tryX RR pins) body (tb RR)) (hs:∀a,PSs (X.inX a) (b₀::suite) ts) (hdb:(x==("__debug__":Str))=false:=by decide):
 PS X (.Try body [.ExceptHandler (some (.Name x np)) (some n) (b₀::suite) hpos] [] [] pos) (PQ X.K C0 i tb ts):=by
 intro pins s σ H D I h;refine wpAny_Try_except ?_;refine A9 (hb _ pins [] s σ H D (I.tryX _) h) (λf s1 h1=>?_) λe s1 h1=>?_
 · have h2:=h1.outTry;cases f with
   | next=>obtain⟨σ',H',I',q⟩:=h2;exact Do ⟨σ',H',I',q⟩
   | brk=>exact h2
   | cont=>exact h2
   | ret u=>exact h2
 · obtain⟨a,C,H0,s0,σ',H',rfl,I0,fl,C',hC',⟨nm,q,N,bs,bm,hdct,sn,sub,ab,col,dd,k0,k1,k2,k3,k5,lC,hsub⟩,hq⟩:=h1;obtain rfl:C=C':=by cases hC';rfl
   obtain⟨nm0,q0,N0,bs0,bm0,hdct0,sn0,sub0,ab0,col0,dd0,j0,j1,j2,j3,j5,lC0,O0⟩:=O;obtain⟨B,t,fb⟩:=fl.ex;have hfr:X.A.frames=some (X.env::X.outer):=by rw[I.ok.frames,hst]
   have fl1:=fb.fl;rw[hst] at fl1;refine wpAny_looks_onW hfr hf fl1 λh4 held up4=>?_;refine wpAny_landsW held λh5 fl5 up5=>?_;have fl5':DW B X.stack a (.ref C) (.ref t) h5:=by rw[hst];exact fl5
   have f5:=fl.go I0.stack fb fl5' (up4.trans up5);have I5:=f5.inv I0;have fb5:FlyB X.base X.stack s0 a C H' B t h5:=⟨fl5',fb.bs,fb.tr,fb.old⟩;refine wpAny_handleBy_cons (codeAny_handlers_test ?_) (by intro z;cases z);refine Mq (X:=X.inX a) (I5.inX a) hg hm ?_ hdb;obtain⟨oe,ws,hoe,hoec,_⟩:=fl5.first
   have KX:=I5.kIn;refine XM (h:=h5) (KX _ _ lC) (KX _ _ lC0) O0 hsub hoe hoec ?_;refine codeAny_handlers_suite_as ?_;refine lands_againW (s:={s1 with heap:=h5}) fl5' λh6 fl6 up6=>?_
   have f6:=f5.go I0.stack fb5 fl6 up6;have I6:=f6.inv I0;obtain⟨oe6,ws6,hoe6,hoec6,_⟩:=fl6.first
   have fr:=f6.fresh I0.stack I0.stkFree;have hl0:a≠X.env.locals:=λz=>by obtain⟨m,⟨o,es,ep,ho,_⟩,_⟩:=I0.loc;rw[←z,fr] at ho;cases ho
   have hc0:∀y c,X.env.cells.lookup y=some c→c≠a:=λy c e z=>by obtain⟨v,o,ho,_⟩:=I0.cell y c e;rw[z,fr] at ho;cases ho
   have hp0:∀p∈X.pn++pins,p.1≠a:=λp hp z=>by have:=(I0.pin p hp).1;rw[z,fr] at this;cases this
   have hs0:X.s₀.heap.get? a=none:=by
    cases z:X.s₀.heap.get? a with
    | none=>rfl
    | some o=> obtain⟨o',e'⟩:=I0.base.there a o z (by rw[hex];simp);rw[fr] at e';cases e'
   have I7:=I6.track (o:=J9 a C) f6.free hs0 hl0 hc0 hp0 ⟨⟨oe6,hoe6,hoec6⟩,⟨oe6,hoe6⟩,λh1 h2 ⟨o,e1,e2⟩ k=>⟨o,k o e1,e2⟩⟩;refine OZ I7 hN hi (.inl hk) (show RelV (.ref a) (.ref a) from rfl) (λs7 I8=>?_) (.inr hk);refine A9 (hs a pins s7 _ _ _ (I8.inX a) (hq a f6.free)) (λf s8 h8=>?_) λ_ _ z=>z.elim;cases f with
   | next=>obtain⟨σ2,H2,I9,q9⟩:=h8;exact NK (I9.outX I.ok) hN hi hk2 λs9 I10=>⟨_,_,I10,q9⟩
   | brk=>obtain⟨σ2,H2,I9,q9⟩:=h8;exact NK (I9.outX I.ok) hN hi hk2 λs9 I10=>⟨_,_,I10,q9⟩
   | cont=>obtain⟨σ2,H2,I9,q9⟩:=h8;exact NK (I9.outX I.ok) hN hi hk2 λs9 I10=>⟨_,_,I10,q9⟩
   | ret u=>obtain⟨v,σ2,H2,I9,r9,q9⟩:=h8;exact NK (I9.outX I.ok) hN hi hk2 λs9 I10=>⟨v,_,_,I10,r9,q9⟩
end
open PySem.W (Looks looks_findIn looks_mroIn looks_typeIn)
structure XAttr(K:Af)(C:Addr):Prop where
 ga:BV K (.ref C) "__getattribute__"=some (some (.builtin "BaseException.__getattribute__"))
 no:BV K (.ref C) "__getattr__"=some none
 cl:BV K (.ref C) "__class__"=some (some (.builtin "object.__class__"))
 ob:An K C (.type "object")=some true
 be:An K C (.type "BaseException")=some true
def ClsAt(a C:Addr)(h:Heap):Prop:=∃o,h.get? a=some o∧o.cls= .ref C
theorem ClsAt.ty{C:Addr}{M:Model}(p:ClsAt a C h):Looks M h (typeOf (.ref a)) (.ref C):=by obtain⟨o,h1,h2⟩:=p;exact h2 ▸ (Looks.ld h1).andThen .now
section
variable{g:Array GenState}{d:Drawn}{t:Nat}{os:OsState}{C:Addr}
theorem Y8{R:Result→Shared→Prop}{tp:Value}(X:K.In h)(T:XAttr K C)(p:ClsAt a C h)(hq:R (.ok (.ret (.ref C))) ⟨h,g,d,t,os⟩):
 codeAny (model prog w) A (.call (.builtin "getset_descriptor.__get__") ⟨[.builtin "object.__class__",.ref a,tp],[]⟩) R ⟨h,g,d,t,os⟩:=by
 have L0:=p.ty (M:=model prog w);have L1:=looks_mroIn (M:=model prog w) X T.ob;refine Ci PySem.W.KF.slot_gs.plain PySem.W.KF.entry_gs (PySem.W.KF.slot_gs.check _ _ _ _ _ _ _ _ DN (PySem.W.KF.args_gs _ _ _) ?_);unfold Builtin.«getset_descriptor.__get__» FI;rw[PySem.W.dga_obj];refine Aa (Ac ?_);unfold FH Fj Fn isInstance;simp only[PySem.W.KF.owner_class]
 repeat lk
 refine⟨Du _ (by decide+kernel),BD PySem.W.KF.entry_class ?_⟩;unfold Builtin.«object.__class__» shownTypeOf
 repeat lk
 exact hq
theorem Yz{M:Model}{nameV:Value}{Q:Unit→Shared→Prop}(X:K.In h)(T:XAttr K C)(p:ClsAt a C h)(hq:Q () ⟨h,g,d,t,os⟩):wpAny M A (checkBuiltinCall "BaseException.__getattribute__" ⟨[.ref a,nameV],[]⟩) Q E ⟨h,g,d,t,os⟩:=by
 have hk:builtinKind "BaseException.__getattribute__"=some .slot:=by decide+kernel
 have hsplit:splitId "BaseException.__getattribute__"=some ("BaseException","__getattribute__"):=by decide+kernel
 have ha:=F.args_bexc_ga (.ref a) nameV;have L0:=p.ty (M:=M);have L1:=looks_mroIn (M:=M) X T.be;simp only[checkBuiltinCall,hk,hsplit];refine Aa ?_;unfold isInstance;refine Aa (L0.at ?_);refine L1.at ?_
 repeat (first | wp_step)
 exact hq
theorem Z3{tk:Tok}{Q:Fin→Shared→Prop}(X:K.In h)(T:XAttr K C)(p:ClsAt a C h)(hq:Q (.done (.ret (.ref C))) ⟨h,g,d,t,os⟩):
 wpAny (model prog w) A (Builtin.«object.__getattribute__» ⟨[.ref a,.str "__class__" tk],[]⟩) Q E ⟨h,g,d,t,os⟩:=by
 have hT5:(⟨h,g,d,t,os⟩:Shared).TypeIs (.builtin "object.__class__") "getset_descriptor":=DN;have f5:=DN;have f6:=F.slot_gs_get.lookup;have f7:=F.slot_gs_set.lookup;have L2:=looks_findIn (M:=model prog w) X T.cl;obtain⟨o,hx,hc⟩:=p
 repeat (any_goals (first | assumption | (with_reducible refine Bp hx ?_;rw[hc]) | with_reducible refine L2.at ?_ | wp_step))
 refine Y8 X T ⟨o,hx,hc⟩ ?_
 repeat (any_goals (first | assumption | wp_step))
theorem Zd{tk:Tok}{R:Result→Shared→Prop}(X:K.In h)(T:XAttr K C)(p:ClsAt a C h)(hq:R (.ok (.ret (.ref C))) ⟨h,g,d,t,os⟩):
 codeAny (model prog w) A (.call (.builtin "BaseException.__getattribute__") ⟨[.ref a,.str "__class__" tk],[]⟩) R ⟨h,g,d,t,os⟩:=
 Ci PySem.F.attr_ValueError.ga.plain F.entry_bexc_ga (Yz X T p (Z3 X T p hq))
theorem Yp{tk:Tok}{fill expr:Bool}{Q:Value→Shared→Prop}(X:K.In h)(T:XAttr K C)(p:ClsAt a C h)(hq:Q (.ref C) ⟨h,g,d,t,os⟩):
 wpAny (model prog w) A (getAttrBy (.ref a) (.str "__class__" tk) fill expr) Q E ⟨h,g,d,t,os⟩:=by
 have hx0:(expr && onTheHeap (Value.builtin "BaseException.__getattribute__"))=false:=by cases expr<;>rfl
 have hx2:(Value.builtin "BaseException.__getattribute__"==Value.builtin "object.__getattribute__")=false:=by decide+kernel
 have hx1:(onTheHeap (Value.ref C) && Value.builtin "BaseException.__getattribute__"==Value.builtin "object.__getattribute__")=false:=by rw[hx2];rfl
 have f3:=PySem.F.attr_ValueError.ga.bind (.ref a);have L1:=looks_findIn (M:=model prog w) X T.ga;have L2:=looks_findIn (M:=model prog w) X T.no;obtain⟨o,hx,hc⟩:=p
 repeat (any_goals (first | assumption | (with_reducible refine Bp hx ?_;rw[hc]) | with_reducible refine L1.at ?_ | with_reducible refine L2.at ?_ | wp_step))
 refine Zd X T ⟨o,hx,hc⟩ ?_
 repeat (any_goals (first | assumption | wp_step))
theorem Wc{Q:Option Value→Shared→Prop}(X:K.In h)(T:XAttr K C)(p:ClsAt a C h)(hq:Q (some (.ref C)) ⟨h,g,d,t+1,os⟩):
 wpAny (model prog w) A (getAttr? (.ref a) "__class__") Q E ⟨h,g,d,t,os⟩:=by
 unfold getAttr? getAttrBy?;refine Aa (wpAny_mkText (Aa (DE (Yp X T p ?_))));exact Ac hq
theorem SJ(T:XAttr K C):PySem.W.KitX K (.ref a) (.ref C) (ClsAt a C) where
 ty:=λ_ _ _ p=>p.ty
 it:=λ_ _ X _=>by
  obtain⟨cdD,hcD,_⟩:=D1.mp T.ob;unfold PySem.W.clsIn at hcD
  split at hcD
  · rename_i c' d' cd' sl' ho;intro A' Q' E' s' k q;unfold isType loadHead;exact Aa (wpAny_loadPart (k _ _ (X _ _ ho)) (Ac q))
  · cases hcD
 ne:=λh tp dd its n sl X htp=>by
  obtain⟨cdD,hcD,_⟩:=D1.mp T.ob;refine EA.mpr λq=>?_;have e:C=tp:=Value.ref.inj (beq_iff_eq.mp q);subst e;unfold PySem.W.clsIn at hcD
  split at hcD
  · rename_i c' d' cd' sl' ho;have z:=(X _ _ ho).symm.trans htp;cases z
  · cases hcD
 ca:=λ{_ _ _ _ _ s}X p k=>by obtain⟨hh,g,d,t,os⟩:=s;exact Wc X T p k
end
def Iq:V→Value
 | .ref D=> .ref D
 | .ty n=> .type n
 | _=> .none
def Lh:V→Bool
 | .ref _=>true
 | .ty _=>true
 | _=>false
theorem SD{c:V}(h:Lh c=true)(r:RelV c u):u=Iq c:=by
 cases c with
 | ref D=>exact r
 | ty n=>exact r
 | _=>cases h
theorem OV:∀{cs:List V}{us:List Value},cs.all Lh=true→Vals cs us→us=cs.map Iq
 | [],_,_,.nil=>rfl
 | c::cs,_,h,.cons r rs=>by rw[C9,A2] at h;rw[SD h.1 r,OV h.2 rs];rfl
theorem Xc:IZ X (.builtin "isinstance") (λxs H Q=>∃a C c b,xs=[.ref a,c]∧H a=some (J9 a C)∧XAttr X.K C∧Lh c=true∧A0 X.K (.ref C) (Iq c)=some b∧Q (.bl b) H):=by intro pins s σ H xs us Q I r h;obtain⟨a,C,c,b,rfl,ha,T,hc,e,q⟩:=h;obtain⟨u,w',rfl,ru,rw'⟩:=Kl r;cases(show u=Value.ref a from ru);cases SD hc rw';obtain⟨p,_,_⟩:=(show ObjOk X.prog X.w H s.heap a (.ext (λh=>∃o,h.get? a=some o∧o.cls= .ref C)) from I.hok a _ ha);exact Bu (SJ T) I.kIn p e (λz=>nomatch z) λtk=>⟨.bl b,H,I.tok tk,rfl,q⟩
theorem X0:IZ X (.builtin "isinstance") (λxs H Q=>∃a C tp cs b,xs=[.ref a,.ref tp]∧H a=some (J9 a C)∧XAttr X.K C∧H tp=some (.tup cs)∧cs.all Lh=true∧BB X.K (.ref C) (cs.map Iq)=some b∧Q (.bl b) H):=by intro pins s σ H xs us Q I r h;obtain⟨a,C,tp,cs,b,rfl,ha,T,ht,hc,e,q⟩:=h;obtain⟨u,w',rfl,ru,rw'⟩:=Kl r;cases(show u=Value.ref a from ru);cases(show w'=Value.ref tp from rw');obtain⟨p,_,_⟩:=(show ObjOk X.prog X.w H s.heap a (.ext (λh=>∃o,h.get? a=some o∧o.cls= .ref C)) from I.hok a _ ha);obtain⟨_,its,rv,o,h1,h2,h3,n,h4⟩:=(show ObjOk X.prog X.w H s.heap tp (.tup cs) from I.hok tp _ ht);obtain⟨oc,od,oda,osl⟩:=o;dsimp only at h2 h3 h4;subst h2 h3 h4;have hi:its=cs.map Iq:=OV hc rv;subst hi;exact BE (SJ T) I.kIn p h1 e (λz=>nomatch z) λtk=>⟨.bl b,H,I.tok tk,rfl,q⟩
open PySem.W (Looks looks_findIn looks_mroIn looks_typeIn)
section
variable{mg:Str→Option Value}{base:Heap}{N:List Str}{qual:Str}{f:Addr}{cd:Value}{outer:List Env}{E:XK}
end
section
variable{g:Array GenState}{d:Drawn}{t:Nat}{os:OsState}{nm q:Str}{C N:Addr}{bs bm bmB:List Value}{hdct:Bool}{sn:List Str}{sub:List Value}
variable{ab:Bool}{col:Option Bool}{dd:Option Addr}{k0 k1 k2 k3 k5:Option Value}{B newId initId:String}{rest:List Value}
end
section
variable{C fI:Addr}{fd:Bf}{e1:Expr}{t:TA}{np cpos:Pos}
end
section
variable{g:Array GenState}{d:Drawn}{t:Nat}{os:OsState}{e t0 C:Addr}{m:Str}{tk:Tok}
end
def Nb(xs:List V):It:=⟨λi _=>i<xs.length,λi H x H'=>H'=H∧xs[i]?=some x,λi _=>xs.length≤i⟩
theorem Z2{tg:Expr}(it:Addr)(x:Str)(t:Tok):Turn P w K tg (Nb (x.cps.toList.map λc=>V.str ⟨#[c]⟩)) [it] it (λi h=>h.IsStrIter it "str_ascii_iterator" x t i) where
 mem:=by simp
 obj:=λi h st b hb=>by
  have e:b=it:=by simpa using hb
  subst e;obtain⟨o,e,c,d⟩:=st;exact⟨o,e,λv z=>by rw[d] at z;cases z⟩
 keep:=λi h h' st k=>let⟨o,ho,r⟩:=st;⟨o,k it (by simp) o ho,r⟩
 item:=by
  intro X hP hw hK hc i pins s σ H E I hf st hg;subst hP hw hK;have hg:i<(x.cps.toList.map λc=>V.str ⟨#[c]⟩).length:=hg;rw[Ab,Ar] at hg;obtain⟨f0,f1,f2,f3,f4,f5⟩:=hf it (by simp);refine wpAny_pyNext_ascii_item st (c:=x.cps[i]) (by simp[hg]) λh' st' sb=>?_;have I1:Inv X pins σ H {s with heap:=h',toks:=s.toks+1}:=I.turned (λb o hb e=>(sb.2 b hb).trans e) f0 f1 f3 f4 f5
  obtain⟨o,e,c,d⟩:=id st';exact⟨_,rfl,Mg (s:={s with heap:=h',toks:=s.toks+1}) e c d (by decide) ⟨.str ⟨#[x.cps[i]]⟩,H,I1,⟨_,rfl⟩,⟨rfl,by rw[Ay,BN,AT hg];rfl⟩,st',λb hb=>(hf b hb).1⟩⟩
 done:=by intro X hP hw hK hc i pins s σ H E I hf st hg;subst hP hw hK;have hg:(x.cps.toList.map λc=>V.str ⟨#[c]⟩).length≤i:=hg;rw[Ab,Ar] at hg;obtain⟨f0,f1,f2,f3,f4,f5⟩:=hf it (by simp);exact wpAny_pyNext_ascii_end (I.ok.hd hc) st (by simpa using hg) λh' eb=>⟨rfl,I.turned (t':=s.toks) (λb o hb e=>eb b o hb e) f0 f1 f3 f4 f5⟩
 self:=λ_ _ _ _ _ st h=>wpAny_pyIter_striter_ascii st h
theorem Zs{tg:Expr}(it:Addr)(x:Str)(t:Tok):Turn P w K tg (Nb (x.cps.toList.map λc=>V.str ⟨#[c]⟩)) [it] it (λi h=>h.IsStrIter it "str_iterator" x t i) where
 mem:=by simp
 obj:=λi h st b hb=>by
  have e:b=it:=by simpa using hb
  subst e;obtain⟨o,e,c,d⟩:=st;exact⟨o,e,λv z=>by rw[d] at z;cases z⟩
 keep:=λi h h' st k=>let⟨o,ho,r⟩:=st;⟨o,k it (by simp) o ho,r⟩
 item:=by
  intro X hP hw hK hc i pins s σ H E I hf st hg;subst hP hw hK;have hg:i<(x.cps.toList.map λc=>V.str ⟨#[c]⟩).length:=hg;rw[Ab,Ar] at hg;obtain⟨f0,f1,f2,f3,f4,f5⟩:=hf it (by simp);refine wpAny_pyNext_wide_item st (c:=x.cps[i]) (by simp[hg]) λh' st' sb=>?_;have I1:Inv X pins σ H {s with heap:=h',toks:=s.toks+1}:=I.turned (λb o hb e=>(sb.2 b hb).trans e) f0 f1 f3 f4 f5
  obtain⟨o,e,c,d⟩:=id st';exact⟨_,rfl,Mg (s:={s with heap:=h',toks:=s.toks+1}) e c d (by decide) ⟨.str ⟨#[x.cps[i]]⟩,H,I1,⟨_,rfl⟩,⟨rfl,by rw[Ay,BN,AT hg];rfl⟩,st',λb hb=>(hf b hb).1⟩⟩
 done:=by intro X hP hw hK hc i pins s σ H E I hf st hg;subst hP hw hK;have hg:(x.cps.toList.map λc=>V.str ⟨#[c]⟩).length≤i:=hg;rw[Ab,Ar] at hg;obtain⟨f0,f1,f2,f3,f4,f5⟩:=hf it (by simp);exact wpAny_pyNext_wide_end (I.ok.hd hc) st (by simpa using hg) λh' eb=>⟨rfl,I.turned (t':=s.toks) (λb o hb e=>eb b o hb e) f0 f1 f3 f4 f5⟩
 self:=λ_ _ _ _ _ st h=>wpAny_pyIter_striter_wide st h
section
variable{tg:Expr}
def signs(x:Str):List V:=x.cps.toList.map λc=>V.str ⟨#[c]⟩
def Qs(tl:TE):TI:=λσ H R=>tl σ H λv H1=>∃x,v= .str x∧R (Nb (signs x)) H1
theorem Ni{l:Expr}{tl:TE}(hl:PE X l tl):PI X tg l (Qs tl):=by
 intro pins s σ H R I h;refine He (hl pins s σ H _ I h) λv s1 ⟨y,H1,I1,r1,q1⟩=>?_;obtain⟨x,e,q⟩:=q1;subst e;obtain⟨t,rfl⟩:=r1;cases ha:x.cps.all (· <128)
 · refine wpAny_pyIter_wide ha ?_;refine⟨s1.heap.objs.size,[s1.heap.objs.size],_,_,H1,rfl,I1.kept (t':=s1.toks) λb o e=>Ad _ e,Zs _ x t,⟨_,Aq _ rfl,rfl,rfl⟩,λb hb=>?_,q⟩;have e:b=s1.heap.objs.size:=by simpa using hb
   subst e;exact I1.fpOk (Ae _) (I1.hok.fresh (Ae _))
 · refine wpAny_pyIter_ascii ha ?_;refine⟨s1.heap.objs.size,[s1.heap.objs.size],_,_,H1,rfl,I1.kept (t':=s1.toks) λb o e=>Ad _ e,Z2 _ x t,⟨_,Aq _ rfl,rfl,rfl⟩,λb hb=>?_,q⟩;have e:b=s1.heap.objs.size:=by simpa using hb
   subst e;exact I1.fpOk (Ae _) (I1.hok.fresh (Ae _))
theorem NL:HQ X (Bj .LtE) (λx y H Q=>∃i j,x= .str i∧y= .str j∧Q (.bl (!decide (j.cps.toList<i.cps.toList))) H):=by intro pins s σ H x y v u Q I rx ry h;obtain⟨i,j,rfl,rfl,q⟩:=h;obtain⟨t,rfl⟩:=rx;obtain⟨t',rfl⟩:=ry;exact PySem.P.le_str (HS I q rfl)
theorem LY(hc:X.calm=true):IZ X (.builtin "all") (λxs H Q=>∃(a:Addr)(bs:List Bool),xs=[.ref a]∧SqL X.K H a (bs.map V.bl)∧Q (.bl (bs.all id)) H):=by
 intro pins s σ H xs us Q I r h;obtain⟨a,bs,rfl,hq,q⟩:=h;obtain⟨u,rfl,ru⟩:=J3 r;cases ru;obtain⟨its,rv,p,hzz⟩:=I.list hq;have ll:=rv.length;rw[Ab] at ll;refine call_all_walk (E7 p.isList ?_);obtain⟨o,ho,_⟩:=id p.isList;have lt:=Ao ho;refine⟨s.heap.objs.size,_,_,_,_,_,λi=>bs.getD i false,rfl,Walks.list (A:=X.A.in1) (I.ok.hd hc) s.heap.objs.size a (As lt) its.toArray,⟨⟨_,Aq _ rfl,rfl,rfl⟩,p.isList.at λo' e=>Ad _ e⟩,?_,λg t' k=>?_⟩
 · intro i v s' Q' E' hv q';have hi:its[i]?=some v:=by simpa using hv
   have hl:i<its.length:=(AM.mp hi).1;have e:(bs.map V.bl)[i]?=some (.bl (bs.getD i false)):=by rw[Ay,AQ (by omega),Bs,AQ (by omega)];rfl
   obtain⟨u,h1,h2⟩:=Vals.get rv e;rw[hi] at h1;cases h1;cases h2;exact Bo q'
 · refine⟨.bl (bs.all id),H,I.kept (λb o' e=>k b o' ?_ (Ad _ e)),?_,q⟩
   · intro z;exact absurd (Ai.mp z) (As (Ao e))
   · show Value.bool _=Value.bool _;congr 1;rw[Al,←ll];clear rv ll hq q p ho lt hzz
     induction bs with
     | nil=>rfl
     | cons b r ih=> rw[Ax,D9,C9,List.all_map,C9,←ih];rfl
end
theorem Nr{xs:List V}{p:Addr}{g:TG}{tc:TT}{te:TE}{Q:VK}{js:Jj}(Pv:Nat→St→List V→Hp→Prop)(h0:Pv 0 (JF js σ) [] (GZ H p (.lst [])))
 (hl:∀i σ ys H,i≤xs.length→Pv i σ ys H→H p=some (.lst ys)∧ys.length<Ag)
 (hs:∀(i:Nat)x σ ys H(N:St→List V→Hp→Prop),xs[i]?=some x→Pv i σ ys H→(∀σ' ys' H',Pv (i+1) σ' ys' H'→N σ' ys' H')→LP p g tc te ys x σ H N)
 (hd:∀σ ys H,Pv xs.length σ ys H→Q (.ref p) H):JZ (Nb xs) p js g tc te σ H Q:=
 Mk (n:=xs.length) (J:=Nb xs) (js:=js) (σ:=σ) (H:=H) (p:=p) (Q:=Q) (g:=g) (tc:=tc) (te:=te) Pv h0 hl
  (λi σ ys H hi pv=>hi) (λσ ys H pv=>Ae _)
  (λi x σ ys H H' N hi y pv hN=>by obtain⟨e,y⟩:=y;subst e;exact hs i x σ ys _ N y pv hN) hd
section
variable{R:Result→Shared→Prop}
end
section
variable{tg iter kx vx:Expr}{ifs:List Expr}{wi:TI}{js:Jj}{g:TG}{tc:TT}{tk tv:TE}{N':List Str}
end
theorem OE{ti tp:Addr}{vs:Array Value}{v:Value}{Q:Value→Shared→Prop}(hi:s.heap.IsTupleIter ti tp k)(ht:s.heap.IsTuple tp vs)(hv:vs[k]?=some v)
 (fin:∀g,g.IsTupleIter ti tp (k+1)→BO ti s.heap g→Q v {s with heap:=g}):wpAny (model prog w) A (Bi (.ref ti)) Q E s:=by
 obtain⟨oi,e1,c1,d1⟩:=id hi;obtain⟨ot,e2,_,nt,d2⟩:=ht;unfold Bi;refine Aa (Be (name:=BZ "__next__") hi.typeIs Cb (AZ Cb hi.typeIs DA ?_ (D6 _)));show wpAny _ _ (field (.ref ti) 0>>=_) _ _ s;refine Aa (AV e1 d1 (x:= .ref tp) rfl ?_);show wpAny _ _ (if(Value.ref tp==Value.none)=true then _ else _) _ _ s
 rw[if_neg (show ¬((Value.ref tp==Value.none)=true) from Aw)];show wpAny _ _ (field (.ref ti) 1>>=_) _ _ s;refine Aa (AV e1 d1 (x:= .int k 0) rfl ?_);show wpAny _ _ (seqItems? (.ref tp)>>=_) _ _ s;refine Aa (B0 e2 d2 ?_);simp only[AI,hv];refine Aa (Bt e1 d1 (by simp) (Ac ⟨v,rfl,Ac (fin _ ?_ (AU ..))⟩));exact⟨_,Bz _ e1 (Fs (Dv d1 _)),(Obj.cls_mapFields ..).trans c1,by rw[Dv d1];simp[rawInt]⟩
theorem Rq{ti tp:Addr}{vs:Array Value}{Q:Value→Shared→Prop}(hh:A.handled=none)(hi:s.heap.IsTupleIter ti tp k)(ht:s.heap.IsTuple tp vs)(hv:vs[k]?=none)
 (fin:∀g e,Heap.ExtBut ti s.heap g→(∃o,g.get? e=some o∧o.cls= .type "StopIteration")→E (.ref e) {s with heap:=g}):wpAny (model prog w) A (Bi (.ref ti)) Q E s:=by
 obtain⟨oi,e1,c1,d1⟩:=id hi;obtain⟨ot,e2,_,nt,d2⟩:=ht;unfold Bi;refine Aa (Be (name:=BZ "__next__") hi.typeIs Cb (AZ Cb hi.typeIs DA ?_ (D6 _)));show wpAny _ _ (field (.ref ti) 0>>=_) _ _ s;refine Aa (AV e1 d1 (x:= .ref tp) rfl ?_);show wpAny _ _ (if(Value.ref tp==Value.none)=true then _ else _) _ _ s
 rw[if_neg (show ¬((Value.ref tp==Value.none)=true) from Aw)];show wpAny _ _ (field (.ref ti) 1>>=_) _ _ s;refine Aa (AV e1 d1 (x:= .int k 0) rfl ?_);show wpAny _ _ (seqItems? (.ref tp)>>=_) _ _ s;refine Aa (B0 e2 d2 ?_);simp only[AI,hv];refine Aa (Dg (Aa (Bt e1 d1 (by simp) ?_)));show wpAny _ _ (newExc (.type "StopIteration") []>>=_) _ _ _;refine Aa ?_;simp only[newExc,newTuple];refine Aa (Ba ?_ (by size_fits));refine Aa (m:=firstArgMember _ _) (Ff (a:=Value.none) (by first | rfl | (simp only[firstArgMember];rfl)) ?_)
 refine Ba ?_ (by size_fits);simp only[raiseNew];refine Aa (wpAny_handled ?_)
 first | rw[show A.in1.handled=none from hh] | rw[hh]
 refine Aa (Ac (wpAny_throw ?_));exact fin _ _ (((AU ..).extBut.push _).push _) ⟨_,Aq _ rfl,rfl⟩
structure ZA(z a b i j:Addr):Prop where
 az:a≠z
 bz:b≠z
 iz:i≠z
 jz:j≠z
 ab:a≠b
 ai:a≠i
 aj:a≠j
 bi:b≠i
 bj:b≠j
 ij:i≠j
theorem Kt{h':Heap}{t c:Addr}{vs:Array Value}(x:h.IsTuple t vs)(hs:BO c h h')(n:t≠c):h'.IsTuple t vs:=x.extBut hs.extBut n
theorem Wd{z i j t1 t2:Addr}{k1 k2:Nat}{xs ys:Array Value}{x y p q:Value}{Q:Value→Shared→Prop}(D:ZA z a b i j)(n1:t1≠z∧t1≠b∧t1≠i∧t1≠j)(n2:t2≠z∧t2≠b∧t2≠i∧t2≠j)
 (hz:IsZip s.heap z a b .none) (ha:IsPair s.heap a (.ref i) (.ref j)) (hb:IsPair s.heap b p q) (h1:s.heap.IsTupleIter i t1 k1) (h2:s.heap.IsTupleIter j t2 k2) (g1:s.heap.IsTuple t1 xs) (g2:s.heap.IsTuple t2 ys) (hx:xs[k1]?=some x) (hy:ys[k2]?=some y)
 (fin:∀g,IsZip g z a b (rawInt s.heap.objs.size)→IsPair g b x y→g.IsTupleIter i t1 (k1+1)→g.IsTupleIter j t2 (k2+1)→IsPair g s.heap.objs.size x y→
  (∀c o,c≠z→c≠b→c≠i→c≠j→s.heap.get? c=some o→g.get? c=some o)→Q (.ref s.heap.objs.size) {s with heap:=g}):
 wpAny (model prog w) A (Builtin.«zip.__next__» ⟨[.ref z],[]⟩) (λr s'=>∃v,r= .done (.ret v)∧Q v s') E s:=by
 show wpAny _ _ (field (.ref z) 2>>=_) _ _ _;refine Aa (AV hz rfl (x:= .bool false) rfl ?_);show wpAny _ _ (field (.ref z) 3>>=_) _ _ _;refine Aa (AV hz rfl (x:= .ref a) rfl ?_);refine Aa (B0 ha rfl ?_);show wpAny _ _ (BW (.ref z)>>=_) _ _ _;refine Aa ?_;unfold BW;refine Aa (AV hz rfl (x:= .none) rfl (Ac ?_));simp only[if_true];refine Aa (Dg ?_);refine Aa (AV hz rfl (x:= .ref b) rfl ?_);refine Aa (Cy hz (by simp) λw1 z1 m1=>?_)
 replace z1:IsZip w1 z a b .ellipsis:=z1
 refine Aa ?_;simp only[List.zipIdx_cons,List.zipIdx_nil,Fa,Fq];refine Aa (Aa (DD ?_));show wpAny _ _ (Bi (.ref i)>>=_) _ _ _;refine Aa (OE (h1.extBut m1.extBut D.iz) (Kt g1 m1 n1.1) hx λw2 i2 m2=>Ac ?_);have b2:IsPair w2 b p q:=m2.extBut _ _ D.bi (m1.extBut _ _ D.bz hb);refine Aa (B0 b2 rfl ?_);refine Aa (DZ b2 λw3 b3 m3=>?_)
 replace b3:IsPair w3 b x q:=b3
 refine Aa (Fg (Ac ?_));refine Aa (Aa (DD ?_));show wpAny _ _ (Bi (.ref j)>>=_) _ _ _;refine Aa (OE (((h2.extBut m1.extBut D.jz).extBut m2.extBut D.ij.symm).extBut m3.extBut D.bj.symm) (Kt (Kt (Kt g2 m1 n2.1) m2 n2.2.2.1) m3 n2.2.1) hy λw4 j4 m4=>Ac ?_);have b4:IsPair w4 b x q:=m4.extBut _ _ D.bj b3;refine Aa (B0 b4 rfl ?_);refine Aa (DZ b4 λw5 b5 m5=>?_)
 replace b5:IsPair w5 b x y:=b5
 refine Aa (Fg (Ac (Ac ?_)));refine Aa (B0 b5 rfl ?_);refine Aa (wpAny_newTuple ?_);have sz:w5.objs.size=s.heap.objs.size:=by rw[m5.1,m4.1,m3.1,m2.1,m1.1]
 have z5:IsZip w5 z a b .ellipsis:=m5.extBut _ _ D.bz.symm (m4.extBut _ _ D.jz.symm (m3.extBut _ _ D.bz.symm (m2.extBut _ _ D.iz.symm z1)));have k5:∀c o,c≠z→c≠b→c≠i→c≠j→s.heap.get? c=some o→w5.get? c=some o:=λc o c1 c2 c3 c4 e=> m5.extBut _ _ c2 (m4.extBut _ _ c4 (m3.extBut _ _ c2 (m2.extBut _ _ c3 (m1.extBut _ _ c1 e))));have i5:w5.IsTupleIter i t1 (k1+1):=((i2.extBut m3.extBut D.bi.symm).extBut m4.extBut D.ij).extBut m5.extBut D.bi.symm;have j5:w5.IsTupleIter j t2 (k2+1):=j4.extBut m5.extBut D.bj.symm;have zlt:z<w5.objs.size:=Ao z5;show wpAny _ _ (Dw (.ref z) (.ref w5.objs.size)>>=_) _ _ _;refine Aa ?_;unfold Dw;have z6:IsZip (w5.push {cls:= .type "tuple",data:= .seq #[x,y]}) z a b .ellipsis:=Ad _ z5;refine Aa (Cy z6 (by simp) λw7 z7 m7=>?_)
 replace z7:IsZip w7 z a b (rawInt w5.objs.size):=z7
 refine Cy z7 (by simp) λw8 z8 m8=>?_
 replace z8:IsZip w8 z a b (rawInt w5.objs.size):=z8
 have up:∀c o,c≠z→w5.get? c=some o→w8.get? c=some o:=λc o c1 e=>m8.extBut _ _ c1 (m7.extBut _ _ c1 (Ad _ e));have t8:IsPair w8 w5.objs.size x y:=m8.extBut _ _ (CH zlt) (m7.extBut _ _ (CH zlt) (Aq _ rfl));rw[sz] at z8 t8;refine Ac ⟨_,rfl,?_⟩;show Q (.ref w5.objs.size) _;rw[sz];obtain⟨oi,ei,ri⟩:=i5;obtain⟨oj,ej,rj⟩:=j5;exact fin w8 z8 (up _ _ D.bz b5) ⟨oi,up _ oi D.iz ei,ri⟩ ⟨oj,up _ oj D.jz ej,rj⟩ t8 λc o c1 c2 c3 c4 e=>up c o c1 (k5 c o c1 c2 c3 c4 e)
theorem Vq{z i j t1 t2:Addr}{k1 k2:Nat}{xs ys:Array Value}{p q:Value}{Q:Fin→Shared→Prop}(hh:A.handled=none)(D:ZA z a b i j)(n1:t1≠z∧t1≠b∧t1≠i∧t1≠j)(n2:t2≠z∧t2≠b∧t2≠i∧t2≠j)
 (hz:IsZip s.heap z a b .none) (ha:IsPair s.heap a (.ref i) (.ref j)) (hb:IsPair s.heap b p q) (h1:s.heap.IsTupleIter i t1 k1) (h2:s.heap.IsTupleIter j t2 k2) (g1:s.heap.IsTuple t1 xs) (g2:s.heap.IsTuple t2 ys) (hend:xs[k1]?=none∨ys[k2]?=none)
 (fin:∀g e,(∀c o,c≠z→c≠b→c≠i→c≠j→s.heap.get? c=some o→g.get? c=some o)→(∃o,g.get? e=some o∧o.cls= .type "StopIteration")→E (.ref e) {s with heap:=g}):
 wpAny (model prog w) A (Builtin.«zip.__next__» ⟨[.ref z],[]⟩) Q E s:=by
 show wpAny _ _ (field (.ref z) 2>>=_) _ _ _;refine Aa (AV hz rfl (x:= .bool false) rfl ?_);show wpAny _ _ (field (.ref z) 3>>=_) _ _ _;refine Aa (AV hz rfl (x:= .ref a) rfl ?_);refine Aa (B0 ha rfl ?_);show wpAny _ _ (BW (.ref z)>>=_) _ _ _;refine Aa ?_;unfold BW;refine Aa (AV hz rfl (x:= .none) rfl (Ac ?_));simp only[if_true];refine Aa (Dg ?_);refine Aa (AV hz rfl (x:= .ref b) rfl ?_);refine Aa (Cy hz (by simp) λw1 z1 m1=>?_)
 replace z1:IsZip w1 z a b .ellipsis:=z1
 refine Aa ?_;simp only[List.zipIdx_cons,List.zipIdx_nil,Fa,Fq];refine Aa (Aa (DD ?_));show wpAny _ _ (Bi (.ref i)>>=_) _ _ _;cases hx:xs[k1]? with
 | none=>
  refine Aa (Rq hh (h1.extBut m1.extBut D.iz) (Kt g1 m1 n1.1) hx λw2 e m2 he=>?_);obtain⟨oe,e1,e2⟩:=he;have z2:IsZip w2 z a b .ellipsis:=m2 _ _ D.iz.symm z1;have ez:e≠z:=λu=>by subst u;rw[z2] at e1;cases e1;simp at e2
  exact Cy z2 (by simp) λw3 _ m3=>fin w3 e (λc o c1 _ c3 _ u=>m3.extBut _ _ c1 (m2 _ _ c3 (m1.extBut _ _ c1 u))) ⟨oe,m3.extBut _ _ ez e1,e2⟩
 | some x=>
  have hy:ys[k2]?=none:=by
   rcases hend with u | u
   · rw[hx] at u;cases u
   · exact u
  refine Aa (OE (h1.extBut m1.extBut D.iz) (Kt g1 m1 n1.1) hx λw2 i2 m2=>Ac ?_);have b2:IsPair w2 b p q:=m2.extBut _ _ D.bi (m1.extBut _ _ D.bz hb);refine Aa (B0 b2 rfl ?_);refine Aa (DZ b2 λw3 b3 m3=>?_);refine Aa (Fg (Ac ?_));refine Aa (Aa (DD ?_));show wpAny _ _ (Bi (.ref j)>>=_) _ _ _;refine Aa (Rq hh (((h2.extBut m1.extBut D.jz).extBut m2.extBut D.ij.symm).extBut m3.extBut D.bj.symm) (Kt (Kt (Kt g2 m1 n2.1) m2 n2.2.2.1) m3 n2.2.1) hy λw4 e m4 he=>?_);obtain⟨oe,e1,e2⟩:=he;have z4:IsZip w4 z a b .ellipsis:=m4 _ _ D.jz.symm (m3.extBut _ _ D.bz.symm (m2.extBut _ _ D.iz.symm z1));have ez:e≠z:=λu=>by subst u;rw[z4] at e1;cases e1;simp at e2
  exact Cy z4 (by simp) λw5 _ m5=>fin w5 e (λc o c1 c2 c3 c4 u=>m5.extBut _ _ c1 (m4 _ _ c4 (m3.extBut _ _ c2 (m2.extBut _ _ c3 (m1.extBut _ _ c1 u))))) ⟨oe,m5.extBut _ _ ez e1,e2⟩
section
variable{h':Heap}
theorem Inv.newTup{T:Addr}{x y:V}{t':Nat}(I:Inv X pins σ H s)(ch:List Addr)(hch:∀c∈ch,HG X pins H c)(keep:∀c o,c ∉ ch→s.heap.get? c=some o→h'.get? c=some o)(hT:s.heap.objs.size≤T)
 (tup:∃its:List Value,Vals [x,y] its∧IsTupP h' T its.toArray):Inv X pins σ (GZ H T (.tup [x,y])) {s with heap:=h',toks:=t'}:=by
 have hn:H T=none:=I.hok.fresh hT;have neT:∀c o,s.heap.get? c=some o→c≠T:=λc o e=>As (Av (Ao e) hT);have off:∀c u,H c=some u→c ∉ ch:=λc u e z=>by rw[(hch c z).1] at e;cases e
 refine I.step (g':=s.gens) (d':=s.drawn) (ch:=ch) (λc hc=>⟨(hch c hc).2.2.2.1,(hch c hc).2.1,(hch c hc).2.2.2.2.1,(hch c hc).2.2.2.2.2⟩) (λc o _ _ hc e _=>keep c o hc e) (λc o _ _ hc e _=>⟨o.slots,keep c o hc e⟩)
  (λc o _ e n=>by rw[Hk (neT c o e)];exact n) (λc o hc e=>⟨o,keep c o hc e⟩) (λc xs e=>by rw[Hk (IE e hn)];exact e) (λc o u e=>by rw[Hk (IE e hn)];exact e)
  (λc ps e=>⟨#[],by rw[Hk (IE e hn),e];simp⟩) (λm hm=>?_) (λc u e=>?_) I.bare
 · obtain⟨o,es,ep,ho,r⟩:=hm;exact⟨o,es,ep,keep _ o (λz=>(hch _ z).2.1 rfl) ho,r⟩
 · by_cases hc:c=T
   · subst hc;rw[Ha] at e;cases e;obtain⟨its,r,p⟩:=tup;exact⟨by show 2≤Ag;decide,its,r,p⟩
   · rw[Hk hc] at e;refine(I.hok c u e).stay (λd v hd q=>keep d v ?_ q) (λd q=>by rw[Hk (IE q hn)];exact q) λd xs q=>by rw[Hk (IE q hn)];exact q
     rcases hd with z | z
     · rw[z];exact off c u e
     · exact off d _ z
theorem Inv.turnedN{t':Nat}(I:Inv X pins σ H s)(ch:List Addr)(hch:∀c∈ch,HG X pins H c)(keep:∀c o,c ∉ ch→s.heap.get? c=some o→h'.get? c=some o):Inv X pins σ H {s with heap:=h',toks:=t'}:=by
 have off:∀c u,H c=some u→c ∉ ch:=λc u e z=>by rw[(hch c z).1] at e;cases e
 refine I.step (g':=s.gens) (d':=s.drawn) (ch:=ch) (λc hc=>⟨(hch c hc).2.2.2.1,(hch c hc).2.1,(hch c hc).2.2.2.2.1,(hch c hc).2.2.2.2.2⟩) (λc o _ _ hc e _=>keep c o hc e) (λc o _ _ hc e _=>⟨o.slots,keep c o hc e⟩)
  (λc o _ e n=>n) (λc o hc e=>⟨o,keep c o hc e⟩) (λc xs e=>e) (λc o u e=>e) (λc ps e=>⟨#[],by rw[e];simp⟩) (λm hm=>?_) (λc u e=>?_) I.bare
 · obtain⟨o,es,ep,ho,r⟩:=hm;exact⟨o,es,ep,keep _ o (λz=>(hch _ z).2.1 rfl) ho,r⟩
 · refine(I.hok c u e).stay (λd v hd q=>keep d v ?_ q) (λ_ q=>q) λ_ _ q=>q;rcases hd with z | z
   · rw[z];exact off c u e
   · exact off d _ z
theorem Jr{t c:Addr}(I:Inv X pins σ H s)(h:SqT X.K H t xs)(f:HG X pins H c):t≠c:=by
 intro e;subst e;rcases h with(h | ⟨o,h⟩) | ⟨o,its,n,hk,_⟩
 · rw[f.1] at h;cases h
 · rw[f.1] at h;cases h
 · have eb:=I.ok.mod.kin t o hk;rcases f.2.2.2.1 with z | z
   · exact I.ok.noex t o eb z
   · exact absurd (Av (Ao eb) (A8 I.ok.bsz z)) (CU _)
end
def Ol(K:Af)(t1 t2:Addr):It:=
 ⟨λk H=>∃(xs ys:List V)(x y:V),SqT K H t1 xs∧SqT K H t2 ys∧xs[k]?=some x∧ys[k]?=some y,
  λk H v H'=>∃p,v= .ref p∧H p=none∧∀(xs ys:List V)(x y:V),SqT K H t1 xs→SqT K H t2 ys→xs[k]?=some x→ys[k]?=some y→H'=GZ H p (.tup [x,y]),
  λk H=>∃(xs ys:List V),SqT K H t1 xs∧SqT K H t2 ys∧(xs.length≤k∨ys.length≤k)⟩
theorem XF{P:Bk}{w:World}{K:Af}{es:List Expr}{kk:Nat}{pos:Pos}(t1 t2 z a b i j:Addr)(D:ZA z a b i j):
 Turn P w K (.Tuple es kk pos) (Ol K t1 t2) [z,a,b,i,j] z (λk h=>IsZip h z a b .none∧IsPair h a (.ref i) (.ref j)∧(∃p q,IsPair h b p q)∧h.IsTupleIter i t1 k∧h.IsTupleIter j t2 k) where
 mem:=by simp
 obj:=λk h st c hc=>by
  obtain⟨hz,ha,⟨p,q,hb⟩,⟨oi,ei,_,di⟩,⟨oj,ej,_,dj⟩⟩:=st;simp only[Au,Bx,or_false] at hc;rcases hc with rfl | rfl | rfl | rfl | rfl
  · exact⟨_,hz,λv e=>by cases e⟩
  · exact⟨_,ha,λv e=>by cases e⟩
  · exact⟨_,hb,λv e=>by cases e⟩
  · exact⟨oi,ei,λv e=>by rw[di] at e;cases e⟩
  · exact⟨oj,ej,λv e=>by rw[dj] at e;cases e⟩
 keep:=λk h h' st kp=>by obtain⟨hz,ha,⟨p,q,hb⟩,⟨oi,ei,ri⟩,⟨oj,ej,rj⟩⟩:=st;exact⟨kp z (by simp) _ hz,kp a (by simp) _ ha,⟨p,q,kp b (by simp) _ hb⟩,⟨oi,kp i (by simp) _ ei,ri⟩,⟨oj,kp j (by simp) _ ej,rj⟩⟩
 item:=by
  intro X hP hw hK hc k pins s σ H E I hf st hg;subst hP hw hK;obtain⟨xs,ys,x,y,q1,q2,hx,hy⟩:=hg;obtain⟨hz,ha,⟨p,q,hb⟩,h1,h2⟩:=st;obtain⟨its1,r1,g1,_⟩:=I.tuple q1;obtain⟨its2,r2,g2,_⟩:=I.tuple q2;obtain⟨u1,hu1,v1⟩:=r1.get hx;obtain⟨u2,hu2,v2⟩:=r2.get hy;have fz:=hf z (by simp);have fb:=hf b (by simp);have fi:=hf i (by simp);have fj:=hf j (by simp);have hT:s.TypeIs (.ref z) "zip":=⟨_,hz,rfl⟩;unfold pyNext;refine Aa (DE (Be (name:=BZ "__next__") hT C_ (AZ C_ hT Fk
   (Wd D ⟨Jr I q1 fz,Jr I q1 fb,Jr I q1 fi,Jr I q1 fj⟩ ⟨Jr I q2 fz,Jr I q2 fb,Jr I q2 fi,Jr I q2 fj⟩ hz ha hb h1 h2 g1 g2 (by simpa using hu1) (by simpa using hu2) λg a1 a2 a3 a4 a5 a6=>Ac ?_) (ET _))))
  refine⟨_,rfl,wpAny_letOwnedTupleGo_zip a1 λg' z' m'=>?_⟩;have zT:z≠s.heap.objs.size:=As (Ao hz);have up:∀c o,c≠z→g.get? c=some o→g'.get? c=some o:=λc o hc e=>m'.extBut c o hc e;have fr:H s.heap.objs.size=none:=I.hok.fresh (Ae _);have I1:Inv X pins σ (GZ H s.heap.objs.size (.tup [x,y])) {s with heap:=g'}:=by
   refine I.newTup (t':=s.toks) [z,b,i,j] (λc hc=>?_) (λc o hc e=>?_) (Ae _) ⟨[u1,u2],.cons v1 (.cons v2 .nil),_,up _ _ zT.symm a5,rfl,rfl,_,rfl⟩
   · simp only[Au,Bx,or_false] at hc;rcases hc with rfl | rfl | rfl | rfl
     · exact fz
     · exact fb
     · exact fi
     · exact fj
   · simp only[Au,Bx,or_false,not_or] at hc;exact up c o hc.1 (a6 c o hc.1 hc.2.1 hc.2.2.1 hc.2.2.2 e)
  obtain⟨oi,ei,ri⟩:=a3;obtain⟨oj,ej,rj⟩:=a4;refine⟨.ref s.heap.objs.size,_,I1,rfl,⟨_,rfl,fr,λxs' ys' x' y' s1 s2 e1 e2=>?_⟩,⟨z',up _ _ D.az (a6 a _ D.az D.ab D.ai D.aj ha),⟨_,_,up _ _ D.bz a2⟩,⟨oi,up _ _ D.iz ei,ri⟩,⟨oj,up _ _ D.jz ej,rj⟩⟩,λc hc=>?_⟩
  · rw[I.tuple_inj s1 q1,hx] at e1;rw[I.tuple_inj s2 q2,hy] at e2;cases e1;cases e2;rfl
  · have fc:=hf c hc;have:c≠s.heap.objs.size:=by
     simp only[Au,Bx,or_false] at hc;obtain⟨oi',ei',_⟩:=h1;obtain⟨oj',ej',_⟩:=h2;rcases hc with rfl | rfl | rfl | rfl | rfl
     · exact zT
     · exact As (Ao ha)
     · exact As (Ao hb)
     · exact As (Ao ei')
     · exact As (Ao ej')
    rw[Hk this];exact fc.1
 done:=by
  intro X hP hw hK hc k pins s σ H E I hf st hg;subst hP hw hK;obtain⟨xs,ys,q1,q2,hend⟩:=hg;obtain⟨hz,ha,⟨p,q,hb⟩,h1,h2⟩:=st;obtain⟨its1,r1,g1,_⟩:=I.tuple q1;obtain⟨its2,r2,g2,_⟩:=I.tuple q2;have l1:=r1.length;have l2:=r2.length;have fz:=hf z (by simp);have fb:=hf b (by simp);have fi:=hf i (by simp);have fj:=hf j (by simp);have hT:s.TypeIs (.ref z) "zip":=⟨_,hz,rfl⟩;unfold pyNext;refine Aa (DE (Be (name:=BZ "__next__") hT C_ (AZ C_ hT Fk
   (Vq (I.ok.hd hc) D ⟨Jr I q1 fz,Jr I q1 fb,Jr I q1 fi,Jr I q1 fj⟩ ⟨Jr I q2 fz,Jr I q2 fb,Jr I q2 fi,Jr I q2 fj⟩ hz ha hb h1 h2 g1 g2 ?_ λg e kp he=>?_) (ET _))))
  · rcases hend with u | u
    · exact .inl (by simp;omega)
    · exact .inr (by simp;omega)
  · obtain⟨o,ho,hcl⟩:=he;refine Aa (DH (T:="StopIteration") (b:=true) ⟨o,ho,hcl⟩ isSubtype_stop ?_);refine Ac ⟨rfl,I.turnedN (t':=s.toks) [z,b,i,j] (λc hc=>?_) (λc o hc e=>?_)⟩
    · simp only[Au,Bx,or_false] at hc;rcases hc with rfl | rfl | rfl | rfl
      · exact fz
      · exact fb
      · exact fi
      · exact fj
    · simp only[Au,Bx,or_false,not_or] at hc;exact kp c o hc.1 hc.2.1 hc.2.2.1 hc.2.2.2 e
 self:=λ_ _ _ _ _ st h=>wpAny_pyIter_zip st.1 h
abbrev La(h:Heap)(t:Addr):Heap:=h.push {cls:= .type "tuple_iterator",data:= .fields #[.ref t,.int 0 0]}
abbrev K_(h:Heap)(t u:Addr):Heap:=(La h t).push {cls:= .type "tuple_iterator",data:= .fields #[.ref u,.int 0 0]}
abbrev KZ(h:Heap)(t u:Addr):Heap:=(K_ h t u).push {cls:= .type "tuple",data:= .seq #[.ref h.objs.size,.ref (La h t).objs.size]}
abbrev LB(h:Heap)(t u:Addr):Heap:=(KZ h t u).push {cls:= .type "tuple",data:= .seq #[.none,.none]}
abbrev K8(h:Heap)(t u:Addr):Heap:=(LB h t u).push {cls:= .type "zip",data:= .fields #[.none,.bool false,.bool false,.ref (K_ h t u).objs.size,.ref (KZ h t u).objs.size]}
theorem Vr(t u:Addr)(xs ys:Array Value):Meets (Builtin.«zip.__new__» ⟨[.type "zip",.ref t,.ref u],[]⟩) (λ_ R s=>s.heap.IsTuple t xs∧s.heap.IsTuple u ys∧
 R (.ok (.ret (.ref (LB s.heap t u).objs.size))) {s with heap:=K8 s.heap t u}):=
 .of_wp λprog w A R s h=>by
  obtain⟨hp,g,d,tk,os⟩:=s;obtain⟨g1,g2,h⟩:=h;have f0:=sub_zip;have f1:Heap.IsTuple (Shared.heap ⟨hp,g,d,tk,os⟩) t xs:=g1;have f2:Heap.IsTuple (Shared.heap ⟨hp.push {cls:= .type "tuple_iterator",data:= .fields #[.ref t,.int 0 0]},g,d,tk,os⟩) u ys:=Heap.IsTuple.push g2 _
  wp_walk using Eo f1,Eo f2
  exact⟨_,rfl,h⟩
theorem U3:AO "zip"=some (.type "zip"):=by decide+kernel
def Qq(K:Af)(ta:TA):TI:=λσ H R=>ta σ H λvs H1=>∃t u,vs=[.ref t,.ref u]∧(∃xs,SqT K H1 t xs)∧(∃ys,SqT K H1 u ys)∧R (Ol K t u) H1
theorem VB{es:List Expr}{kk:Nat}{tpos:Pos}{a b:Expr}{ta:TA}{p pos:Pos}(hg:Gl X "zip")(hm:X.mg "zip"=none)(ha:PA X [a,b] ta)
 (he:A1 [a,b] X.env=(false,eval a X.env)::A1 [b] X.env:=by rfl) (hpl:(backTo pos (A1 [b] X.env)).any (·.1)=false:=by rfl):
 PI X (.Tuple es kk tpos) (.Call (.Name "zip" p) [a,b] [] pos) (Qq X.K ta):=by
 intro pins s σ H R I h;refine BP (KE I hg hm U3 ?_ (by decide) (by decide));refine Cu (He (ha pos pins s σ H _ I h) λus s1 ⟨vs,H1,I1,r1,t,u,e,⟨xs,q1⟩,⟨ys,q2⟩,q⟩=>?_) he hpl;subst e;obtain⟨u1,u2,rfl,v1,v2⟩:=Kl r1;cases v1;cases v2;obtain⟨its1,rv1,g1,_⟩:=I1.tuple q1;obtain⟨its2,rv2,g2,_⟩:=I1.tuple q2;refine callType_new PySem.F.called_zip (by decide) (PySem.F.typeCall_zip_2 _ _) (PySem.F.newCall_zip_2 _ _) (λobj=>PySem.F.args_object_init_3 obj _ _) PySem.F.entry_zip_new (Vr t u its1.toArray its2.toArray) ⟨g1,g2,?_⟩;have y1:(La s1.heap t).objs.size=s1.heap.objs.size+1:=AW ..;have y2:(K_ s1.heap t u).objs.size=s1.heap.objs.size+2:=by rw[AW,y1]
 have y3:(KZ s1.heap t u).objs.size=s1.heap.objs.size+3:=by rw[AW,y2]
 have y4:(LB s1.heap t u).objs.size=s1.heap.objs.size+4:=by rw[AW,y3]
 have k5:∀c o,s1.heap.get? c=some o→(K8 s1.heap t u).get? c=some o:=λc o e=>Ad _ (Ad _ (Ad _ (Ad _ (Ad _ e))));have e5:(K8 s1.heap t u).get? (LB s1.heap t u).objs.size=some _:=Aq _ rfl;have e4:(K8 s1.heap t u).get? (KZ s1.heap t u).objs.size=some _:=Ad _ (Aq _ rfl);have e3:(K8 s1.heap t u).get? (K_ s1.heap t u).objs.size=some _:=Ad _ (Ad _ (Aq _ rfl));have e2:(K8 s1.heap t u).get? (La s1.heap t).objs.size=some _:=Ad _ (Ad _ (Ad _ (Aq _ rfl)));have e1:(K8 s1.heap t u).get? s1.heap.objs.size=some _:=Ad _ (Ad _ (Ad _ (Ad _ (Aq _ rfl))));have I2:Inv X pins σ H1 {s1 with heap:=K8 s1.heap t u}:=I1.kept (t':=s1.toks) k5
 have fp:∀c,s1.heap.objs.size≤c→HG X pins H1 c:=λc hc=>I1.fpOk hc (I1.hok.fresh hc);have D:ZA (LB s1.heap t u).objs.size (K_ s1.heap t u).objs.size (KZ s1.heap t u).objs.size s1.heap.objs.size (La s1.heap t).objs.size:=by
  have n4:(KZ s1.heap t u).objs.size<(LB s1.heap t u).objs.size:=by rw[y3,y4];exact BS _
  have n3:(K_ s1.heap t u).objs.size<(KZ s1.heap t u).objs.size:=by rw[y2,y3];exact BS _
  have n2:(La s1.heap t).objs.size<(K_ s1.heap t u).objs.size:=by rw[y1,y2];exact BS _
  have n1:s1.heap.objs.size<(La s1.heap t).objs.size:=by rw[y1];exact BS _
  exact⟨As (BA n3 n4),As n4,As (BA n1 (BA n2 (BA n3 n4))),As (BA n2 (BA n3 n4)),As n3,CH (BA n1 n2),CH n2,
   CH (BA n1 (BA n2 n3)),CH (BA n2 n3),As n1⟩
 refine⟨⟨_,e5,rfl⟩,wpAny_pyIter_zip e5 ?_⟩;refine⟨_,_,_,_,H1,rfl,I2,XF t u _ _ _ _ _ D,⟨e5,e3,⟨_,_,e4⟩,⟨_,e1,rfl,rfl⟩,⟨_,e2,rfl,rfl⟩⟩,λc hc=>fp c ?_,q⟩;simp only[Au,Bx,or_false] at hc;rcases hc with rfl | rfl | rfl | rfl | rfl
 · rw[y4];exact Dh _ _
 · rw[y2];exact Dh _ _
 · rw[y3];exact Dh _ _
 · exact Ae _
 · rw[y1];exact Dh _ _
section
variable{tg iter kx vx:Expr}{ifs:List Expr}{wi:TI}{js:Jj}{g:TG}{tc:TT}{tk tv:TE}{N':List Str}
end
theorem X3{t sl:Addr}{items:Array Value}{vl vu:Value}{lo hi:Option Int}{Q:Value→Shared→Prop}(ht:IsTup s.heap t items)(hs:s.heap.IsSliceOf sl vl vu .none)(pl:IsPart vl lo)(pu:IsPart vu hi)
 (h0:HT.sIx items.size 0 lo=0) (h1:HT.sIx items.size items.size hi=items.size) (h:Q (.ref t) s):wpAny (model prog w) A (getItem (.ref t) (.ref sl)) Q E s:=by
 obtain⟨os,hos,hcs,hds⟩:=id hs;have hTs:s.TypeIs (.ref sl) "slice":=⟨os,hos,hcs⟩;unfold getItem
 try with_reducible refine Bn ?_
 first | refine Aa (Ac ?_) | skip
 refine Aa (E8 ht.typeIs (by decide) ?_);refine Aa (Be (name:=BZ "__getitem__") ht.typeIs Br
  (AZ Br ht.typeIs PySem.F.entry_tuple_getitem ?_ (PySem.F.args_tuple_getitem_2 _ _)))
 show wpAny _ _ (E3 (.ref t)>>=_) _ _ s;refine Aa (tupleItemsOf_ ht ?_);refine Aa (CL hTs ?_);rw[if_pos (by decide)];refine Aa (HT.sliceApplied_gen hs pl pu ?_);have yes:((((HT.sIx items.size 0 lo:Nat):Int)==0 && (1:Int)==1 && (HT.sIx items.size items.size hi - HT.sIx items.size 0 lo)==items.size)=true):=by rw[h0,h1];simp
 show wpAny _ _ (if(((HT.sIx items.size 0 lo:Nat):Int)==0 && (1:Int)==1 && (HT.sIx items.size items.size hi - HT.sIx items.size 0 lo)==items.size)=true then _ else _) _ _ s
 rw[if_pos yes];unfold Builtin.Tuple.tupleIsExact;refine Aa (Aa (CL ht.typeIs (Ac ?_)));rw[if_pos (by decide)];exact Aa (Dg (Ac ⟨_,rfl,Ac h⟩))
def ME(K:Af):V→Option Int→Option Int→Hp→VK→Prop:=λx lo hi H Q=>∃a xs,x= .ref a∧SqT K H a xs∧
 (HT.sIx xs.length 0 lo=0∧HT.sIx xs.length xs.length hi=xs.length→Q (.ref a) H)∧
 (¬(HT.sIx xs.length 0 lo=0∧HT.sIx xs.length xs.length hi=xs.length)→∀p,H p=none→Q (.ref p) (GZ H p (.tup (Ip xs lo hi))))
theorem RU:L6 X (ME X.K):=by
 intro pins s σ H x v vl vu lo hi sl Q I rx hs pl pu h;obtain⟨a,xs,rfl,hx,q1,q2⟩:=h;by_cases hw:HT.sIx xs.length 0 lo=0∧HT.sIx xs.length xs.length hi=xs.length
 · cases rx;obtain⟨its,r,ht,hz⟩:=I.tuple hx;have hlen:its.toArray.size=xs.length:=by rw[Al];exact r.length.symm
   refine⟨"tuple",_,Br.lookup,ht.typeIs,?_⟩;exact X3 ht hs pl pu (by rw[hlen];exact hw.1) (by rw[hlen];exact hw.2) ⟨.ref a,H,I,rfl,q1 hw⟩
 · exact Vh pins s σ H (.ref a) v vl vu lo hi sl Q I rx hs pl pu ⟨a,xs,rfl,hx,hw,q2 hw⟩
theorem VZ{Q:VK}(h:SqT K H a xs)(q:∀p H',Same H H'→SqT K H' p (xs.drop 1)→Q (.ref p) H'):ME K (.ref a) (some 1) none H Q:=by
 have e0:HT.sIx xs.length 0 (some 1)=min 1 xs.length:=HT.sIx_nat _ _ 1;refine⟨a,xs,rfl,h,λhw=>?_,λhw p hp=>?_⟩
 · rw[e0] at hw;have hl:xs.length=0:=by omega
   have hx:xs=[]:=Ck.mp hl;subst hx;exact q a H (Same.refl _) h
 · refine q p _ (Hc hp _) (SqT.of ?_);rw[Ha];unfold Ip;rw[e0,show HT.sIx xs.length xs.length none=xs.length from rfl];cases xs with
   | nil=>rfl
   | cons x r=>
    have e1:min 1 (x::r).length=1:=by rw[Ax];omega
    rw[e1];congr 2;rw[Ax,Nat.add_sub_cancel];exact AJ (by simp)
theorem RH(K:Af)(h:X.K=K):KU X (MH K):=by subst h;exact Jl
theorem SG(K:Af)(h:X.K=K):KU X (MI K):=by subst h;exact Ig
theorem Ws(K:Af)(h:X.K=K){es:List Expr}{k:Nat}{t:KS}{n:Nat}{pos:Pos}(hc:X.calm=true)(hg:MZ X es t)
 (hn:(assignEach es X.env).length=n:=by rfl) (hst:(assignEach es X.env).findIdx? (·.1)=none:=by rfl):PG X (.Tuple es k pos) (MW K n t):=by subst h;exact Kn hc hg hn hst
theorem Vz{K:Af}{t1 t2 p:Addr}{ys:List V}{g:TG}{tc:TT}{te:TE}{Q:VK}{js:Jj}(h1:n≤xs.length)(h2:n≤ys.length)(h3:xs.length≤n∨ys.length≤n)(Pv:Nat→St→List V→Hp→Prop)(h0:Pv 0 (JF js σ) [] (GZ H p (.lst [])))
 (hl:∀i σ zs H,i≤n→Pv i σ zs H→SqT K H t1 xs∧SqT K H t2 ys∧H p=some (.lst zs)∧zs.length<Ag)
 (hs:∀(i:Nat)x y σ zs H q(N:St→List V→Hp→Prop),xs[i]?=some x→ys[i]?=some y→H q=none→Pv i σ zs H→(∀σ' ys' H',Pv (i+1) σ' ys' H'→N σ' ys' H')→LP p g tc te zs (.ref q) σ (GZ H q (.tup [x,y])) N)
 (hd:∀σ zs H,Pv n σ zs H→Q (.ref p) H):JZ (Ol K t1 t2) p js g tc te σ H Q:=
 Mk (n:=n) (J:=Ol K t1 t2) (js:=js) (σ:=σ) (H:=H) (p:=p) (Q:=Q) (g:=g) (tc:=tc) (te:=te) Pv h0 (λi σ zs H hi pv=>(hl i σ zs H hi pv).2.2)
  (λi σ zs H hi pv=>⟨xs,ys,xs[i],ys[i],(hl i σ zs H (Bb hi) pv).1,(hl i σ zs H (Bb hi) pv).2.1,by simp,by simp⟩)
  (λσ zs H pv=>⟨xs,ys,(hl _ σ zs H (Ae _) pv).1,(hl _ σ zs H (Ae _) pv).2.1,h3⟩)
  (λi v σ zs H H' N hi y pv hN=>by
   obtain⟨q,e,hq,y⟩:=y;subst e;have ex:xs[i]?=some xs[i]:=by simp
   have ey:ys[i]?=some ys[i]:=by simp
   have e2:=y xs ys _ _ (hl i σ zs H (Bb hi) pv).1 (hl i σ zs H (Bb hi) pv).2.1 ex ey;subst e2;exact hs i _ _ σ zs H q N ex ey hq pv hN) hd
section
variable{h':Heap}
end
section
variable{te:TE}{p2 p3 p4:Pos}
end
def PM(ns:List Int):Nat:=(ns.foldl step_dedup []).length
section
variable{te:TE}{p2 p3 p4:Pos}
end
end L2
namespace WB
end WB
namespace L2
def Nd(i j:Int):Prop:=i.natAbs<2^1000∧j.natAbs<2^1000
section
variable{Q:VK}
end
theorem OD{H':Hp}{l:Addr}(s:Same H H')(h:H' l=none):H l=none:=by
 cases hz:H l with
 | none=>rfl
 | some o=>rw[s _ _ hz] at h;cases h
theorem nb{i:Int}(h0:0≤i)(h1:i<2^400):i.natAbs<2^1000:=by
 have:i.natAbs<2^400:=by omega
 exact Av this (by decide)
theorem ZR{y z:Int}(y0:0≤y)(y1:y<10^41)(z0:0≤z)(z1:z≤2^31):
 Nd 30011 z∧Nd (y+1) (30011*z+7)∧Nd 104729 z∧Nd (104729*z) z∧0≤(y+1)*(30011*z+7)+104729*z*z∧(y+1)*(30011*z+7)+104729*z*z<2^400:=by
 have a0:0≤30011*z+7:=by omega
 have a1:30011*z+7≤2^50:=by omega
 have a2:(y+1)*(30011*z+7)≤(10^41)*2^50:=Ft (by omega) a1 a0 (by decide);have a3:0≤(y+1)*(30011*z+7):=Fu (by omega) a0;have b0:0≤104729*z:=by omega
 have b1:104729*z≤2^50:=by omega
 have b2:104729*z*z≤2^50*2^31:=Ft b1 z1 z0 (by decide);have b3:0≤104729*z*z:=Fu b0 z0;refine⟨⟨by decide,nb z0 (by omega)⟩,⟨nb (by omega) (by omega),nb a0 (by omega)⟩,⟨by decide,nb z0 (by omega)⟩,⟨nb b0 (by omega),nb z0 (by omega)⟩,by omega,by omega⟩
def Nc(K:Af):Sp:=λvs H Q _=>∃(a:Addr)(ns:List Int),vs=[.ref a]∧SqL K H a (ns.map V.int)∧ns.length≤63∧∀H',Q (.bl true) H'
def Q4(H H':Hp):Prop:=∀a xs,H a=some (.tup xs)→H' a=some (.tup xs)
theorem Sv{p:Addr}{ys:List V}{o:HO}(h:H p=some (.lst ys)):Q4 H (GZ H p o):=λa xs e=>by rw[Hk (Ow e h (by intro z;cases z))];exact e
theorem Jn{H0:Hp}{p:Addr}{o:HO}(s:Same H0 H)(n:H0 p=none):Same H0 (GZ H p o):=λa u e=>by rw[Hk (IE e n)];exact s _ _ e
end L2
namespace WB
end WB
namespace WB
end WB
namespace L2
section
variable{te:TE}{p2 p3 p4:Pos}
end
end L2
namespace WB
end WB
namespace L2
inductive DX where
 | non
 | bl (b:Bool)
 | int (i:Int)
 | str (x:Str)
 | lst (ds:List DX)
 | tup (ds:List DX)
 | dic
mutual
def HC(H:Hp):DX→V→Prop
 | .non,v=>v= .non
 | .bl b,v=>v= .bl b
 | .int i,v=>v= .int i
 | .str x,v=>v= .str x∧x.length≤2500
 | .lst ds,v=>∃a xs,v= .ref a∧H a=some (.lst xs)∧ds.length≤2500∧LD H ds xs
 | .tup ds,v=>∃a xs,v= .ref a∧H a=some (.tup xs)∧ds.length≤2500∧LD H ds xs
 | .dic,v=>∃a,v= .ref a∧H a=some (.dK [])
def LD(H:Hp):List DX→List V→Prop
 | [],xs=>xs=[]
 | d::ds,xs=>∃x r,xs=x::r∧HC H d x∧LD H ds r
end
mutual
def pd:DX→PyData
 | .non=> .none
 | .bl b=> .bool b
 | .int i=> .int i
 | .str x=> .str x
 | .lst ds=> .list (Mb ds)
 | .tup ds=> .tuple (Mb ds)
 | .dic=> .dict []
def Mb:List DX→List PyData
 | []=>[]
 | d::ds=>pd d::Mb ds
end
def On:DX→Bool
 | .lst _=>false
 | .tup _=>false
 | _=>true
mutual
theorem Pb(I:Inv X pins σ H s):∀(d:DX){v:V}{u:Value},HC H d v→RelV v u→∃as,Reads s.heap u (pd d) as∧(On d=true→BI ∉ as)
 | .non,v,u,h,r=>by rw[HC] at h;subst h;cases(show u=Value.none from r);rw[pd];exact⟨[],.none,λ_=>by simp⟩
 | .bl b,v,u,h,r=>by rw[HC] at h;subst h;cases(show u=Value.bool b from r);rw[pd];exact⟨[],.bool b,λ_=>by simp⟩
 | .int i,v,u,h,r=>by rw[HC] at h;subst h;obtain⟨t,e⟩:=(show ∃t,u=Value.int i t from r);subst e;rw[pd];exact⟨[],.int i t,λ_=>by simp⟩
 | .str x,v,u,h,r=>by rw[HC] at h;obtain⟨rfl,_⟩:=h;obtain⟨t,e⟩:=(show ∃t,u=Value.str x t from r);subst e;rw[pd];exact⟨[],.str x t,λ_=>by simp⟩
 | .lst ds,v,u,h,r=>by rw[HC] at h;obtain⟨a,xs,rfl,h1,_,h2⟩:=h;cases(show u=Value.ref a from r);obtain⟨_,its,n,rv,hg⟩:=(show ObjOk X.prog X.w H s.heap a (.lst xs) from I.hok a _ h1);obtain⟨as,ra,_⟩:=NP I ds h2 rv;rw[pd];exact⟨a::as,.list hg rfl rfl ra,λz=>by cases z⟩
 | .tup ds,v,u,h,r=>by rw[HC] at h;obtain⟨a,xs,rfl,h1,_,h2⟩:=h;cases(show u=Value.ref a from r);obtain⟨_,its,rv,o,hg,hc,_,n,hd⟩:=(show ObjOk X.prog X.w H s.heap a (.tup xs) from I.hok a _ h1);obtain⟨as,ra,_⟩:=NP I ds h2 rv;rw[pd];exact⟨as,.tuple hg hc hd ra,λz=>by cases z⟩
 | .dic,v,u,h,r=>by
  rw[HC] at h;obtain⟨a,rfl,h1⟩:=h;cases(show u=Value.ref a from r);obtain⟨_,hS,vs,rk,o,es,ep,hg,hx,hd,hk,hp,_⟩:=JB I.hok h1;cases rk;have ee:es.toList=[]:=by
   cases z:es.toList with
   | nil=>rfl
   | cons y ys=>rw[z] at hp;cases hp
  rw[pd];refine⟨a::[]++[],.dict (kvs:=[]) hg hx.1 hd (by rw[ee];exact .nil) (by rw[ee];exact .nil),λ_ z=>?_⟩;simp at z;rw[←z] at hS;simp at hS
theorem NP(I:Inv X pins σ H s):∀(ds:List DX){xs:List V}{us:List Value},LD H ds xs→Vals xs us→∃as,ReadsAll s.heap us (Mb ds) as∧((∀d∈ds,On d=true)→BI ∉ as)
 | [],xs,us,h,r=>by rw[LD] at h;subst h;cases r;rw[Mb];exact⟨[],.nil,λ_=>by simp⟩
 | d::ds,xs,us,h,r=>by
  rw[LD] at h;obtain⟨x,ys,rfl,h1,h2⟩:=h;cases r with
  | cons r1 r2=>
   obtain⟨as,ra,na⟩:=Pb I d h1 r1;obtain⟨bs,rb,nb⟩:=NP I ds h2 r2;rw[Mb];refine⟨as++bs,.cons ra rb,λz w=>?_⟩;rcases A6.mp w with w | w
   · exact na (z d (AD ..)) w
   · exact nb (λe he=>z e (Az _ he)) w
end
def Q9(d:DX)(v:V):Prop:=(pd d).hasDict=false∨d= .dic∨∃ds a,d= .lst ds∧v= .ref a∧a≠BI∧∀e∈ds,On e=true
theorem WV(I:Inv X pins σ H s){d:DX}{v:V}(h:HC H d v)(r:RelV v u)(n:Q9 d v):∃as,Reads s.heap u (pd d) as∧((pd d).hasDict=true→BI ∉ as):=by
 rcases n with n | rfl | ⟨ds,a,rfl,rfl,hn,hd⟩
 · obtain⟨as,ra,_⟩:=Pb I d h r;exact⟨as,ra,λz=>by rw[n] at z;cases z⟩
 · obtain⟨as,ra,na⟩:=Pb I _ h r;exact⟨as,ra,λ_=>na rfl⟩
 · rw[HC] at h;obtain⟨a',xs,e,h1,_,h2⟩:=h;cases e;cases(show u=Value.ref a from r);obtain⟨_,its,n,rv,hg⟩:=(show ObjOk X.prog X.w H s.heap a (.lst xs) from I.hok a _ h1);obtain⟨as,ra,na⟩:=NP I ds h2 rv;rw[pd];refine⟨a::as,.list hg rfl rfl ra,λ_ z=>?_⟩;rcases Au.mp z with z | z
   · exact hn z.symm
   · exact na hd z
def ZV(d:DX):Prop:=(pd d).showable=true∧(pd d).shown.length≤Ag∧(pd d).depth≤8
theorem Mt(hr:Room k X.A):IZ X (.builtin "repr") (λxs H Q=>∃v d,xs=[v]∧HC H d v∧ZV d∧Q9 d v∧Q (.str (pd d).shown) H):=by
 intro pins s σ H xs us Q I r h;obtain⟨v,d,rfl,hd,⟨h1,h2,h3⟩,ns,q⟩:=h;obtain⟨u,rfl,ru⟩:=J3 r;obtain⟨as,ra,na⟩:=WV I hd ru ns;have un:=hr.units;have fin:∀h' u tk,(∀b o,s.heap.get? b=some o→h'.get? b=some o)→EP X pins σ Q (.str (pd d).shown u) {s with heap:=h',toks:=tk}:=λh' u tk hk=>⟨.str _,H,I.kept hk,⟨_,rfl⟩,q⟩
 cases d with
 | non=>rw[HC] at hd;subst hd;cases(show u=Value.none from ru);exact PySem.P.repr_of_none (fin _ _ _ λ_ _ z=>z)
 | bl b=>rw[HC] at hd;subst hd;cases(show u=Value.bool b from ru);exact PySem.P.repr_of_bool (fin _ _ _ λ_ _ z=>z)
 | int i=>rw[HC] at hd;subst hd;obtain⟨t,e⟩:=(show ∃t,u=Value.int i t from ru);subst e;rw[pd] at h1;exact PySem.P.repr_of_int (of_decide_eq_true (by simpa only[Bv] using h1)) (fin _ _ _ λ_ _ z=>z)
 | str x=>rw[HC] at hd;obtain⟨rfl,_⟩:=hd;obtain⟨t,e⟩:=(show ∃t,u=Value.str x t from ru);subst e;rw[pd] at h2;exact PySem.P.repr_of_str (fin _ _ _ λ_ _ z=>z) (by simpa only[AF] using h2)
 | lst ds=>rw[HC] at hd;obtain⟨a,xs,rfl,_⟩:=hd;cases(show u=Value.ref a from ru);exact repr_of_reads' ra h1 na hr.gd (by omega) (λ_ _ z=>z) fin h2
 | tup ds=>rw[HC] at hd;obtain⟨a,xs,rfl,_⟩:=hd;cases(show u=Value.ref a from ru);exact repr_of_reads' ra h1 na hr.gd (by omega) (λ_ _ z=>z) fin h2
 | dic=>rw[HC] at hd;obtain⟨a,rfl,_⟩:=hd;cases(show u=Value.ref a from ru);exact repr_of_reads' ra h1 na hr.gd (by omega) (λ_ _ z=>z) fin h2
theorem Wf(ts:List Str):(DI ", " ts).length≤piled ts:=by
 cases ts with
 | nil=>exact AX _
 | cons t ts=>have:=join_length_add (t::ts) (by simp);omega
theorem IT{C D:Addr}(t:AH K (.ref D)=some (.type "type"))(o:An K D (.type "object")=some true)(m:An K C (.ref D)=some false)(n:(Value.ref C==Value.ref D)=false):
 A0 K (.ref C) (.ref D)=some false:=by
 obtain⟨cd,hc,_⟩:=D1.mp o;unfold A0 PySem.W.kitCls;rw[n,if_neg (by decide)];dsimp only;rw[hc,t,if_pos (by rfl)];exact m
theorem SI{C:Addr}:A0 K (.ref C) (.ref C)=some true:=by unfold A0;rw[if_pos (by simp)]
theorem VS{C:Addr}{b:Bool}(m:An K C (.type "ValueError")=some b):A0 K (.ref C) (.type "ValueError")=some b:=by unfold A0 PySem.W.kitCls;rw[if_neg (λq=>by cases beq_iff_eq.mp q)];dsimp only;rw[if_pos (by decide+kernel)];exact m
theorem Vf:AO "ValueError"=some (.type "ValueError"):=by decide+kernel
theorem R9:AO "repr"=some (.builtin "repr"):=by decide+kernel
open PySem.AutoSeq1 (wpAny_loadPart')
open PySem.MeetsSeq PySem.MeetsSeq2 PySem.MeetsSeq3 PySem.SeqRoads2
def EqIn(P:Bk)(w:World)(A:Bq)(s:Shared)(y x:Value):Prop:=∀(E:Value→Shared→Prop)(Q:Bool→Shared→Prop),Q true s→wpAny (model P w) A (eqBool y x) Q E s
theorem EqIn.of{y x:Value}(h:SeqAt.EqAt A s y x true):EqIn P w A s y x:=λE Q q=>h P w E Q q
theorem YZ(l b:Addr)(items items2:Array Value)(n n2:Nat)(dd dd2:Option Addr)(sl sl2:Array (Option Value))(hsz:items.size=items2.size)(k:Nat):
 ∀i:Nat,items.size - i=k→∀(A:Bq)(R:Result→Shared→Prop)(s:Shared),s.heap.get? l=some {cls:= .type "list",dict:=dd,data:= .seq items n,slots:=sl}→s.heap.get? b=some {cls:= .type "list",dict:=dd2,data:= .seq items2 n2,slots:=sl2}→
  (∀j(h1:j<items.size)(h2:j<items2.size),EqIn P w A.in1 s items[j] items2[j])→R (.ok (.ret (.bool true))) s→
  wpAny (model P w) A.in1 (Builtin.«list.__eq__.loop» ⟨[.ref l,.ref b,rawInt i,rawInt 2],[]⟩) (λfin s'=>match fin with | .done f=>R (.ok f) s' | .again c'=>c'.quiet=true∧codeAny (model P w) A c' R s') (λe s'=>R (.error e) s') s:=by
 induction k with
 | zero=>
  intro i hk A R s hl hb he h;obtain⟨hp,g,d,tk,os⟩:=s
  wp_walk using AN hl,AN hb
  have o1:items[((i:Nat):Int).toNat]?=none:=by simp;omega
  have o2:items2[((i:Nat):Int).toNat]?=none:=by simp;omega
  rw[o1,o2]
  wp_walk using AN hl,AN hb
  show R (.ok (.ret (.bool (items.size==items2.size)))) _;rw[hsz];simpa using h
 | succ k ih=>
  intro i hk A R s hl hb he h;obtain⟨hp,g,d,tk,os⟩:=s
  wp_walk using AN hl,AN hb
  have lt1:i<items.size:=by omega
  have lt2:i<items2.size:=by omega
  have o1:items[((i:Nat):Int).toNat]?=some items[i]:=by simp[lt1]
  have o2:items2[((i:Nat):Int).toNat]?=some items2[i]:=by simp[lt2]
  have hc:((i:Int)+1)=((i+1:Nat):Int):=by push_cast;rfl
  rw[o1,o2];refine Aa (he i lt1 lt2 _ _ ?_)
  wp_walk
  rw[hc];exact⟨CA plain_eq_loop _,BD entry_eq_loop (by rw[Bw plain_eq_loop _];exact ih (i+1) (by omega) A R _ hl hb he h)⟩
theorem VM(l b:Addr)(items items2:Array Value)(n n2:Nat)(dd dd2:Option Addr)(sl sl2:Array (Option Value))(hsz:items.size=items2.size)(A:Bq)(R:Result→Shared→Prop)(s:Shared)
 (hl:s.heap.get? l=some {cls:= .type "list",dict:=dd,data:= .seq items n,slots:=sl}) (hb:s.heap.get? b=some {cls:= .type "list",dict:=dd2,data:= .seq items2 n2,slots:=sl2})
 (he:∀j(h1:j<items.size)(h2:j<items2.size),EqIn P w A.in1 s items[j] items2[j]) (h:R (.ok (.ret (.bool true))) s):
 wpAny (model P w) A.in1 (Builtin.«list.__eq__» ⟨[.ref l,.ref b],[]⟩) (λfin s'=>match fin with | .done f=>R (.ok f) s' | .again c'=>c'.quiet=true∧codeAny (model P w) A c' R s') (λe s'=>R (.error e) s') s:=by
 obtain⟨hp,g,d,tk,os⟩:=s;have f3:=Fl;have hne:¬(items.size !=items2.size)=true:=by simp[hsz]
 wp_walk using AN hl,AN hb
 exact⟨CA plain_eq_loop _,BD entry_eq_loop (by rw[Bw plain_eq_loop _];exact YZ l b items items2 n n2 dd dd2 sl sl2 hsz _ 0 rfl A R _ hl hb he h)⟩
theorem Sh{l:Addr}{items items2:Array Value}{E:Value→Shared→Prop}{Q:Value→Shared→Prop}(hl:s.heap.IsList l items)(hb:s.heap.IsList b items2)(hsz:items.size=items2.size)(hu:A.units<cLine)
 (he:∀j(h1:j<items.size)(h2:j<items2.size),EqIn P w A.in1 s items[j] items2[j]) (h:Q (.bool true) s):wpAny (model P w) A (richCompare .Eq (.ref l) (.ref b)) Q E s:=by
 obtain⟨⟨c1,dd,data,sl⟩,ho,hc,n,hd⟩:=id hl;obtain⟨⟨c2,dd2,data2,sl2⟩,ho2,hc2,n2,hd2⟩:=id hb;simp only at hc hd hc2 hd2;subst hc hd hc2 hd2;refine Cz (op:= .Eq) ⟨_,ho,rfl⟩ ⟨_,ho2,rfl⟩ F.slot_list_eq ?_ hu;refine Df (Ci F.slot_list_eq.plain F.entry_list_eq (F.slot_list_eq.check _ _ _ _ _ _ _ _ ⟨_,ho,rfl⟩ (F.args_list_eq_2 _ _) ?_));exact VM l b items items2 n n2 dd dd2 sl sl2 hsz A (wants (λv s'=>v≠ .notImplemented∧Q v s') E) s ho ho2 he (show Value.bool true≠Value.notImplemented∧Q (.bool true) s from⟨(λx=>nomatch x),h⟩)
theorem Si{l:Addr}{items items2:Array Value}{E:Value→Shared→Prop}{Q:Value→Shared→Prop}(hl:s.heap.IsTuple l items)(hb:s.heap.IsTuple b items2)(hsz:items.size=items2.size)(hu:A.units<cLine)
 (he:∀j(h1:j<items.size)(h2:j<items2.size),EqIn P w A.in1 s items[j] items2[j]) (h:Q (.bool true) s):wpAny (model P w) A (richCompare .Eq (.ref l) (.ref b)) Q E s:=by
 obtain⟨⟨c1,dd,data,sl⟩,ho,hc,n,hd⟩:=id hl;obtain⟨⟨c2,dd2,data2,sl2⟩,ho2,hc2,n2,hd2⟩:=id hb;simp only at hc hd hc2 hd2;subst hc hd hc2 hd2;refine Cz (op:= .Eq) ⟨_,ho,rfl⟩ ⟨_,ho2,rfl⟩ F.slot_tuple_eq (AZ F.slot_tuple_eq ⟨_,ho,rfl⟩ F.entry_tuple_eq ?_ (F.args_tuple_eq_2 _ _)) hu;obtain⟨hp,g,d,tk,os⟩:=s;have f2:=AutoSeq1.sub_tuple_tuple;have hZ:(items.toList.zip items2.toList).length=items.size:=by simp[hsz]
 wp_walk using AN ho,AN ho2,wpAny_forIn_list _ (λrest b s'=>b.1=none∧s'=⟨hp,g,d,tk,os⟩∧∃i,rest=(items.toList.zip items2.toList).drop i) _
 case turn=>
  rintro⟨y,x⟩ rest b s' ⟨hb',rfl,i,hz⟩;have lt0:i<(items.toList.zip items2.toList).length:=by
   rcases Nat.lt_or_ge i (items.toList.zip items2.toList).length with h' | h'
   · exact h'
   · rw[List.drop_of_length_le h'] at hz;cases hz
  have h1:i<items.size:=hZ ▸ lt0;have h2:i<items2.size:=hsz ▸ h1;rw[List.drop_eq_getElem_cons lt0] at hz;injection hz with hyx hrest
  have hy:y=items[i]:=by have:=congrArg Prod.fst hyx;simpa using this
  have hx:x=items2[i]:=by have:=congrArg Prod.snd hyx;simpa using this
  subst hy hx;refine Aa (he i h1 h2 _ _ ?_)
  wp_walk
  exact⟨rfl,rfl,i+1,hrest⟩
 case fin=>
  rintro⟨b1,b2⟩ s' ⟨hb',rfl,i,hz⟩;simp only at hb';subst hb'
  wp_walk
  refine⟨_,rfl,?_⟩;have e:CS .Eq items.size items2.size=Value.bool true:=by simp[CS,hsz]
  first | (rw[e];exact⟨(λx=>nomatch x),h⟩) | (simpa [CS,hsz] using h)
 case h=>exact⟨rfl,rfl,0,rfl⟩
open PySem PySem.Spec PyProof.Rows PySem.Calls
section
variable{κ:Type}[DecidableEq κ]{knd:KeyKind P w κ}
theorem Yo{nm:String}{ka kb:List (κ×Value)}{Q:Bool→Shared→Prop}(ha:(a==BI)=false)(hb:(b==BI)=false)
 (da:s.heap.DictOf knd a ka) (db:s.heap.DictOf knd b kb) (hlen:ka.length=kb.length) (hits:∀(i:Nat)(k:κ)(v:Value),ka[i]?=some (k,v)→∃y,valueAt kb k=some y∧EqIn P w A s v y) (h:Q true s):
 wpAny (model P w) A (Fm nm a b) Q E s:=by
 obtain⟨o1,m1,p1,g1,_,d1,q1,z1,_⟩:=da;obtain⟨o2,m2,p2,g2,_,d2,q2,z2,_⟩:=db;have n1:ka.length=m1.size:=by rw[←z1.length];exact Ar
 have n2:kb.length=m2.size:=by rw[←z2.length];exact Ar
 have look:∀k,findBy knd.is m2 k=valueAt kb k:=λk=>by rw[←z2.find k];clear n2 z2 q2 d2 g2;obtain⟨l⟩:=m2;simp[findBy]
 have same:m1.size=m2.size:=by omega
 unfold Fm Builtin.Dict.showsAll;rw[if_neg (by rw[ha];exact Aw),if_neg (by rw[hb];exact Aw)];refine Aa (Ac (Aa (Ac (Aa (D7 g1 d1 ?_)))));dsimp only;refine Aa (D7 g2 d2 ?_);rw[if_neg (by rw[same];simp)];refine Aa (wpAny_dictEpoch g1 d1 (Aa ?_));rw[Std.Legacy.Range.forIn_eq_forIn_range'];simp only[Std.Legacy.Range.size,Nat.sub_zero,Nat.add_sub_cancel,Nat.div_one];refine wpAny_forIn_list _ (λrest q s'=>s'=s∧q=(none,())∧∃i,rest=List.range' i (m1.size - i)∧i≤m1.size) _ ?_ ?_ _ _ ⟨rfl,rfl,0,by simp,AX _⟩
 · rintro x rest q s' ⟨rfl,rfl,i,hr,hi⟩;have lt0:i<m1.size:=by
    rcases Nat.lt_or_ge i m1.size with z | z
    · exact z
    · rw[Nat.sub_eq_zero_of_le z] at hr;simp at hr
   obtain⟨rfl,ht⟩:x=i∧rest=List.range' (i+1) (m1.size - (i+1)):=by
    have e:m1.size - i=(m1.size - (i+1))+1:=by omega
    rw[e,List.range'_succ] at hr;injection hr with z1 z2
    exact⟨z1,z2⟩
   refine Aa (D7 g1 d1 ?_);rw[AT lt0];have lt1:x<ka.length:=by omega
   obtain⟨k,v,kv⟩:∃k v,ka[x]=(k,v):=⟨_,_,rfl⟩;have kv':ka[x]?=some (k,v):=by rw[AQ lt1,kv]
   obtain⟨hkey,hval⟩:=z1.get? (i:=x) (e:=m1[x]) (k:=k) (v:=v) (by rw[BN];exact AT lt0) kv';obtain⟨k',hk',hh⟩:=q1 m1[x] (Array.getElem_mem lt0);have ekk:k'=k:=knd.inj _ _ _ hk' hkey;rw[ekk] at hh;obtain⟨y,hy,he⟩:=hits x k v kv';show wpAny _ _ (holding [m1[x].key,m1[x].val] _>>=_) _ _ _;rw[hh];refine Aa (Bn (Aa (wpAny_dictFind_of hkey g2 d2 q2 ?_)));cases hj:m2.findIdx? λe=>knd.is k e.key with
   | none=>
    have:valueAt kb k=none:=by rw[←look k,findBy_of_findIdx?,hj]
    rw[this] at hy;cases hy
   | some j=>
    obtain⟨jlt,_,_⟩:=Array.findIdx?_eq_some_iff_getElem.mp hj;have hv':valueAt kb k=some m2[j].val:=by rw[←look k,findBy_of_findIdx?,hj];simp[AT jlt]
    refine Aa (D7 g2 d2 ?_);rw[AT jlt];have ey:m2[j].val=y:=Am (hv'.symm.trans hy);rw[←ey,←hval] at he;refine Bn (he _ _ ?_);show wpAny _ _ (if(!true)=true then _ else _) _ _ _
    rw[if_neg (by decide)];refine Aa (wpAny_dictEpoch g1 d1 ?_);rw[if_neg (by simp)];exact Ac ⟨rfl,rfl,x+1,ht,lt0⟩
 · rintro q s' ⟨rfl,rfl,i,hr,hi⟩;exact Ac h
theorem N5{ka kb:List (κ×Value)}{Q:Value→Shared→Prop}(ha:(a==BI)=false)(hb:(b==BI)=false)
 (da:s.heap.DictOf knd a ka) (db:s.heap.DictOf knd b kb) (hu:A.units<cLine) (hlen:ka.length=kb.length) (hits:∀(i:Nat)(k:κ)(v:Value),ka[i]?=some (k,v)→∃y,valueAt kb k=some y∧EqIn P w A.in1 s v y) (h:Q (.bool true) s):
 wpAny (model P w) A (richCompare .Eq (.ref a) (.ref b)) Q E s:=by
 refine Cz (op:= .Eq) da.typeIs db.typeIs F7 (AZ F7 da.typeIs PySem.F.entry_dict_eq ?_ (PySem.F.args_dict_eq_2 _ _)) hu;show wpAny _ _ (EE "__eq__" ⟨[.ref a,.ref b],[]⟩>>=_) _ _ s;unfold EE;refine Aa (Aa (wpAny_notOrdered_dict da.typeIs ?_));show wpAny _ _ (pure (Value.ref a,Value.ref b)) _ _ s;refine Ac (Aa (DH (T:="dict") db.typeIs PySem.F.sub_dict_dict ?_));simp only[Bool.not_true,Cv,if_false];refine Aa (Ac (Aa (Ac (Aa (Yo ha hb da db hlen hits ?_)))));exact Ac ⟨_,rfl,(λx=>nomatch x),by simpa using h⟩
end
inductive DY where
 | non
 | bl (b:Bool)
 | int (i:Int)
 | str (x:Str)
 | lst (ds:List DY)
 | tup (ds:List DY)
 | dic
 | da (d:DY)
mutual
def RepY(H:Hp):DY→V→Prop
 | .non,v=>v= .non
 | .bl b,v=>v= .bl b
 | .int i,v=>v= .int i
 | .str x,v=>v= .str x∧x.length≤2500
 | .lst ds,v=>∃a xs,v= .ref a∧H a=some (.lst xs)∧ds.length≤2500∧RepYs H ds xs
 | .tup ds,v=>∃a xs,v= .ref a∧H a=some (.tup xs)∧ds.length≤2500∧RepYs H ds xs
 | .dic,v=>∃a,v= .ref a∧H a=some (.dK [])
 | .da d,v=>∃a u,v= .ref a∧H a=some (.dK [(.inr "a",u)])∧RepY H d u
def RepYs(H:Hp):List DY→List V→Prop
 | [],xs=>xs=[]
 | d::ds,xs=>∃x r,xs=x::r∧RepY H d x∧RepYs H ds r
end
mutual
theorem RepY.same{H':Hp}(s:Same H H'):∀(d:DY){v:V},RepY H d v→RepY H' d v
 | .non,v,h=>by rw[RepY] at*;exact h
 | .bl b,v,h=>by rw[RepY] at*;exact h
 | .int i,v,h=>by rw[RepY] at*;exact h
 | .str x,v,h=>by rw[RepY] at*;exact h
 | .lst ds,v,h=>by rw[RepY] at*;obtain⟨a,xs,e,h1,h0,h2⟩:=h;exact⟨a,xs,e,s _ _ h1,h0,RepYs.same s ds h2⟩
 | .tup ds,v,h=>by rw[RepY] at*;obtain⟨a,xs,e,h1,h0,h2⟩:=h;exact⟨a,xs,e,s _ _ h1,h0,RepYs.same s ds h2⟩
 | .dic,v,h=>by rw[RepY] at*;obtain⟨a,e,h1⟩:=h;exact⟨a,e,s _ _ h1⟩
 | .da d,v,h=>by rw[RepY] at*;obtain⟨a,u,e,h1,h2⟩:=h;exact⟨a,u,e,s _ _ h1,RepY.same s d h2⟩
theorem RepYs.same{H':Hp}(s:Same H H'):∀(ds:List DY){xs:List V},RepYs H ds xs→RepYs H' ds xs
 | [],xs,h=>by rw[RepYs] at*;exact h
 | d::ds,xs,h=>by rw[RepYs] at*;obtain⟨x,r,e,h1,h2⟩:=h;exact⟨x,r,e,RepY.same s d h1,RepYs.same s ds h2⟩
end
theorem RepYs.length:∀{ds:List DY}{xs:List V},RepYs H ds xs→xs.length=ds.length
 | [],xs,h=>by rw[RepYs] at h;rw[h];rfl
 | d::ds,xs,h=>by rw[RepYs] at h;obtain⟨x,r,rfl,_,h⟩:=h;rw[Ax,Ax,RepYs.length h]
theorem RepYs.get:∀{ds:List DY}{xs:List V}{i:Nat}{x:V},RepYs H ds xs→xs[i]?=some x→∃d,ds[i]?=some d∧RepY H d x
 | [],xs,i,x,h,e=>by rw[RepYs] at h;subst h;simp at e
 | d::ds,xs,0,x,h,e=>by rw[RepYs] at h;obtain⟨y,r,rfl,h1,h2⟩:=h;simp at e;subst e;exact⟨d,rfl,h1⟩
 | d::ds,xs,i+1,x,h,e=>by rw[RepYs] at h;obtain⟨y,r,rfl,h1,h2⟩:=h;simp at e;obtain⟨d',e1,e2⟩:=RepYs.get h2 e;exact⟨d',by simpa using e1,e2⟩
theorem RepYs.append:∀{ds es:List DY}{xs ys:List V},RepYs H ds xs→RepYs H es ys→RepYs H (ds++es) (xs++ys)
 | [],es,xs,ys,h,h'=>by rw[RepYs] at h;subst h;exact h'
 | d::ds,es,xs,ys,h,h'=>by rw[RepYs] at h;obtain⟨x,r,rfl,h1,h2⟩:=h;rw[List.cons_append,List.cons_append,RepYs];exact⟨x,r++ys,rfl,h1,RepYs.append h2 h'⟩
mutual
def HW:DY→Nat
 | .lst ds=>Jx ds+1
 | .tup ds=>Jx ds+1
 | .da d=>HW d+1
 | _=>0
def Jx:List DY→Nat
 | []=>0
 | d::ds=>max (HW d) (Jx ds)
end
def Uf:DY→String
 | .non=>"NoneType"
 | .bl _=>"bool"
 | .int _=>"int"
 | .str _=>"str"
 | .lst _=>"list"
 | .tup _=>"tuple"
 | .dic=>"dict"
 | .da _=>"dict"
theorem RepY.ty{d:DY}{v:V}(h:RepY H d v):TyOf K H v (.type (Uf d)):=by
 cases d with
 | non=>rw[RepY] at h;subst h;exact .non
 | bl b=>rw[RepY] at h;subst h;exact .bl b
 | int i=>rw[RepY] at h;subst h;exact .int i
 | str x=>rw[RepY] at h;obtain⟨rfl,_⟩:=h;exact .str x
 | lst ds=>rw[RepY] at h;obtain⟨a,xs,rfl,h1,_⟩:=h;exact .lst h1
 | tup ds=>rw[RepY] at h;obtain⟨a,xs,rfl,h1,_⟩:=h;exact .tup h1
 | dic=>rw[RepY] at h;obtain⟨a,rfl,h1⟩:=h;exact .dK h1
 | da d=>rw[RepY] at h;obtain⟨a,u,rfl,h1,_⟩:=h;exact .dK h1
theorem NS{l:Addr}(h:∀(E:Value→Shared→Prop)(Q:Value→Shared→Prop),Q (.bool true) s→wpAny (model P w) A (richCompare .Eq (.ref l) (.ref b)) Q E s):EqIn P w A s (.ref l) (.ref b):=λE Q hq=>by
 by_cases e:l=b
 · subst e;exact DU (.ref l) P w E Q hq
 · unfold eqBool;refine Bn ?_;refine wpAny_ite_split (λhab=>absurd (by have:=eq_of_beq hab;injection this) e) (λ_=>?_);exact Aa (h E _ (Bo hq))
mutual
theorem OL(I:Inv X pins σ H s):∀(A:Bq)(d:DY)(v v':V)(u u':Value),RepY H d v→RepY H d v'→RelV v u→RelV v' u'→A.units+HW d<cLine→EqIn X.prog X.w A s u u'
 | A,.non,v,v',u,u',h,h',r,r',z=>by rw[RepY] at h h';subst h h';exact EqIn.of (Lj I A .non .non _ _ _ _ (by rw[GY]) (by rw[GY]) r r' (show A.units+0<cLine by omega))
 | A,.bl b,v,v',u,u',h,h',r,r',z=>by rw[RepY] at h h';subst h h';have:=Lj I A (.bl b) (.bl b) _ _ _ _ (by rw[GY]) (by rw[GY]) r r' (show A.units+0<cLine by omega);rw[Kr] at this;exact EqIn.of this
 | A,.int b,v,v',u,u',h,h',r,r',z=>by rw[RepY] at h h';subst h h';have:=Lj I A (.int b) (.int b) _ _ _ _ (by rw[GY]) (by rw[GY]) r r' (show A.units+0<cLine by omega);rw[Kr] at this;exact EqIn.of this
 | A,.str b,v,v',u,u',h,h',r,r',z=>by rw[RepY] at h h';obtain⟨rfl,_⟩:=h;obtain⟨rfl,_⟩:=h';have:=Lj I A (.str b) (.str b) _ _ _ _ (by rw[GY]) (by rw[GY]) r r' (show A.units+0<cLine by omega);rw[Kr] at this;exact EqIn.of this
 | A,.lst ds,v,v',u,u',h,h',r,r',z=>by rw[RepY] at h h';obtain⟨a,xs,rfl,h1,_,h2⟩:=h;obtain⟨a',xs',rfl,h1',_,h2'⟩:=h';cases(show u=Value.ref a from r);cases(show u'=Value.ref a' from r');obtain⟨_,its,n,rv,hg⟩:=(show ObjOk X.prog X.w H s.heap a (.lst xs) from I.hok a _ h1);obtain⟨_,its',n',rv',hg'⟩:=(show ObjOk X.prog X.w H s.heap a' (.lst xs') from I.hok a' _ h1');have l1:=h2.length;have l2:=h2'.length;have l3:=rv.length;have l4:=rv'.length;rw[HW] at z;refine NS λE Q q=>Sh ⟨_,hg,rfl,_,rfl⟩ ⟨_,hg',rfl,_,rfl⟩ (by simp only[Al];omega) (by omega) (λj k1 k2=>?_) q;have:=Mu I A.in1 ds xs xs' its its' h2 h2' rv rv' (by rw[A_];omega) j (by simpa using k1) (by simpa using k2);simpa using this
 | A,.tup ds,v,v',u,u',h,h',r,r',z=>by rw[RepY] at h h';obtain⟨a,xs,rfl,h1,_,h2⟩:=h;obtain⟨a',xs',rfl,h1',_,h2'⟩:=h';cases(show u=Value.ref a from r);cases(show u'=Value.ref a' from r');obtain⟨_,its,rv,o,hg,hc,_,n,hd⟩:=(show ObjOk X.prog X.w H s.heap a (.tup xs) from I.hok a _ h1);obtain⟨_,its',rv',o',hg',hc',_,n',hd'⟩:=(show ObjOk X.prog X.w H s.heap a' (.tup xs') from I.hok a' _ h1');have l1:=h2.length;have l2:=h2'.length;have l3:=rv.length;have l4:=rv'.length;rw[HW] at z;refine NS λE Q q=>Si ⟨_,hg,hc,_,hd⟩ ⟨_,hg',hc',_,hd'⟩ (by simp only[Al];omega) (by omega) (λj k1 k2=>?_) q;have:=Mu I A.in1 ds xs xs' its its' h2 h2' rv rv' (by rw[A_];omega) j (by simpa using k1) (by simpa using k2);simpa using this
 | A,.dic,v,v',u,u',h,h',r,r',z=>by rw[RepY] at h h';obtain⟨a,rfl,h1⟩:=h;obtain⟨a',rfl,h1'⟩:=h';cases(show u=Value.ref a from r);cases(show u'=Value.ref a' from r');obtain⟨_,hS,vs,rk,dd⟩:=JB I.hok h1;obtain⟨_,hS',vs',rk',dd'⟩:=JB I.hok h1';cases rk;cases rk';exact NS λE Q q=>N5 hS hS' dd dd' (by omega) rfl (λi k v e=>by simp at e) q
 | A,.da d,v,v',u,u',h,h',r,r',z=>by
  rw[RepY] at h h';obtain⟨a,y,rfl,h1,h2⟩:=h;obtain⟨a',y',rfl,h1',h2'⟩:=h';cases(show u=Value.ref a from r);cases(show u'=Value.ref a' from r');obtain⟨_,hS,vs,rk,dd⟩:=JB I.hok h1;obtain⟨_,hS',vs',rk',dd'⟩:=JB I.hok h1';rw[HW] at z;have l1:1=vs.length:=KV.length rk;have l2:1=vs'.length:=KV.length rk';refine NS λE Q q=>N5 hS hS' dd dd' (by omega) (by omega) (λi k w e=>?_) q;cases rk with
  | cons p1 p2=>
   cases p2;cases rk' with
   | cons p1' p2'=>
    cases p2';rename_i kw kw';obtain⟨k0,w0⟩:=kw;obtain⟨k0',w0'⟩:=kw';obtain⟨e1,r1⟩:=p1;obtain⟨e1',r1'⟩:=p1';dsimp only at e1 e1' r1 r1';subst e1 e1';cases i with
    | succ i=>simp at e
    | zero=> simp at e;obtain⟨rfl,rfl⟩:=e;refine⟨w0',by simp[valueAt],OL I A.in1 d y y' w0 w0' h2 h2' r1 r1' (by rw[A_];omega)⟩
theorem Mu(I:Inv X pins σ H s):∀(A:Bq)(ds:List DY)(vs ws:List V)(us ys:List Value),RepYs H ds vs→RepYs H ds ws→Vals vs us→Vals ws ys→A.units+Jx ds<cLine→
 ∀(j:Nat)(h1:j<us.length)(h2:j<ys.length),EqIn X.prog X.w A s us[j] ys[j]
 | A,[],vs,ws,us,ys,h,h',r,r',z=>by rw[RepYs] at h;subst h;cases r;intro j h1;simp at h1
 | A,d::ds,vs,ws,us,ys,h,h',r,r',z=>by
  rw[RepYs] at h h';obtain⟨x,q,rfl,g1,g2⟩:=h;obtain⟨x',q',rfl,g1',g2'⟩:=h';rw[Jx] at z;cases r with
  | cons r1 r2=>
   cases r' with
   | cons r1' r2'=>
    intro j h1 h2;cases j with
    | zero=>exact OL I A d x x' _ _ g1 g1' r1 r1' (by omega)
    | succ j=>exact Mu I A ds q q' _ _ g2 g2' r2 r2' (by omega) j (by simpa using h1) (by simpa using h2)
end
theorem WU(I:Inv X pins σ H s)(A:Bq)(d:DY)(v v':V)(u u':Value)(h:RepY H d v)(h':RepY H d v')(r:RelV v u)(r':RelV v' u')(z:A.units+HW d<cLine){E:Value→Shared→Prop}{Q:Value→Shared→Prop}(q:Q (.bool true) s):
 wpAny (model X.prog X.w) A (richCompare .Eq u u') Q E s:=by
 cases d with
 | non=> rw[RepY] at h h';subst h h';exact Mx I A .non .non _ _ _ _ (by rw[GY]) (by rw[GY]) r r' (show A.units+0<cLine by omega) X.prog X.w _ _ q
 | bl b=> rw[RepY] at h h';subst h h';have:=Mx I A (.bl b) (.bl b) _ _ _ _ (by rw[GY]) (by rw[GY]) r r' (show A.units+0<cLine by omega);rw[Kr] at this;exact this X.prog X.w _ _ q
 | int b=> rw[RepY] at h h';subst h h';have:=Mx I A (.int b) (.int b) _ _ _ _ (by rw[GY]) (by rw[GY]) r r' (show A.units+0<cLine by omega);rw[Kr] at this;exact this X.prog X.w _ _ q
 | str b=> rw[RepY] at h h';obtain⟨rfl,_⟩:=h;obtain⟨rfl,_⟩:=h';have:=Mx I A (.str b) (.str b) _ _ _ _ (by rw[GY]) (by rw[GY]) r r' (show A.units+0<cLine by omega);rw[Kr] at this;exact this X.prog X.w _ _ q
 | lst ds=> rw[RepY] at h h';obtain⟨a,xs,rfl,h1,_,h2⟩:=h;obtain⟨a',xs',rfl,h1',_,h2'⟩:=h';cases(show u=Value.ref a from r);cases(show u'=Value.ref a' from r');obtain⟨_,its,n,rv,hg⟩:=(show ObjOk X.prog X.w H s.heap a (.lst xs) from I.hok a _ h1);obtain⟨_,its',n',rv',hg'⟩:=(show ObjOk X.prog X.w H s.heap a' (.lst xs') from I.hok a' _ h1');have l1:=h2.length;have l2:=h2'.length;have l3:=rv.length;have l4:=rv'.length;rw[HW] at z;refine Sh ⟨_,hg,rfl,_,rfl⟩ ⟨_,hg',rfl,_,rfl⟩ (by simp only[Al];omega) (by omega) (λj k1 k2=>?_) q;have:=Mu I A.in1 ds xs xs' its its' h2 h2' rv rv' (by rw[A_];omega) j (by simpa using k1) (by simpa using k2);simpa using this
 | tup ds=> rw[RepY] at h h';obtain⟨a,xs,rfl,h1,_,h2⟩:=h;obtain⟨a',xs',rfl,h1',_,h2'⟩:=h';cases(show u=Value.ref a from r);cases(show u'=Value.ref a' from r');obtain⟨_,its,rv,o,hg,hc,_,n,hd⟩:=(show ObjOk X.prog X.w H s.heap a (.tup xs) from I.hok a _ h1);obtain⟨_,its',rv',o',hg',hc',_,n',hd'⟩:=(show ObjOk X.prog X.w H s.heap a' (.tup xs') from I.hok a' _ h1');have l1:=h2.length;have l2:=h2'.length;have l3:=rv.length;have l4:=rv'.length;rw[HW] at z;refine Si ⟨_,hg,hc,_,hd⟩ ⟨_,hg',hc',_,hd'⟩ (by simp only[Al];omega) (by omega) (λj k1 k2=>?_) q;have:=Mu I A.in1 ds xs xs' its its' h2 h2' rv rv' (by rw[A_];omega) j (by simpa using k1) (by simpa using k2);simpa using this
 | dic=> rw[RepY] at h h';obtain⟨a,rfl,h1⟩:=h;obtain⟨a',rfl,h1'⟩:=h';cases(show u=Value.ref a from r);cases(show u'=Value.ref a' from r');obtain⟨_,hS,vs,rk,dd⟩:=JB I.hok h1;obtain⟨_,hS',vs',rk',dd'⟩:=JB I.hok h1';cases rk;cases rk';exact N5 hS hS' dd dd' (by omega) rfl (λi k v e=>by simp at e) q
 | da d=>
  rw[RepY] at h h';obtain⟨a,y,rfl,h1,h2⟩:=h;obtain⟨a',y',rfl,h1',h2'⟩:=h';cases(show u=Value.ref a from r);cases(show u'=Value.ref a' from r');obtain⟨_,hS,vs,rk,dd⟩:=JB I.hok h1;obtain⟨_,hS',vs',rk',dd'⟩:=JB I.hok h1';rw[HW] at z;have l1:1=vs.length:=KV.length rk;have l2:1=vs'.length:=KV.length rk';refine N5 hS hS' dd dd' (by omega) (by omega) (λi k w e=>?_) q;cases rk with
  | cons p1 p2=>
   cases p2;cases rk' with
   | cons p1' p2'=>
    cases p2';rename_i kw kw';obtain⟨k0,w0⟩:=kw;obtain⟨k0',w0'⟩:=kw';obtain⟨e1,r1⟩:=p1;obtain⟨e1',r1'⟩:=p1';dsimp only at e1 e1' r1 r1';subst e1 e1';cases i with
    | succ i=>simp at e
    | zero=> simp at e;obtain⟨rfl,rfl⟩:=e;refine⟨w0',by simp[valueAt],OL I A.in1 d y y' w0 w0' h2 h2' r1 r1' (by rw[A_];omega)⟩
def Qf:R2:=λx y H Q=>∃d,RepY H d x∧RepY H d y∧HW d<60∧Q (.bl true) H
theorem V7(hr:JS X):HQ X (Bj .Eq) Qf:=by intro pins s σ H x y v u Q I rx ry h;obtain⟨d,h1,h2,h3,q⟩:=h;unfold JS at hr;exact WU I X.A d x y v u h1 h2 rx ry (by omega) ⟨.bl true,H,I,rfl,q⟩
theorem TW:IZ X (.builtin "isinstance") (λxs H Q=>∃x t tp cs b,xs=[x,.ref tp]∧TyOf X.K H x (.type t)∧H tp=some (.tup cs)∧cs.all Lh=true∧BB X.K (.type t) (cs.map Iq)=some b∧Q (.bl b) H):=by
 intro pins s σ H xs us Q I r h;obtain⟨x,t,tp,cs,b,rfl,ty,ht,hc,e,q⟩:=h;obtain⟨u,w',rfl,ru,rw'⟩:=Kl r;cases(show w'=Value.ref tp from rw');obtain⟨_,its,rv,o,h1,h2,h3,n,h4⟩:=(show ObjOk X.prog X.w H s.heap tp (.tup cs) from I.hok tp _ ht);obtain⟨oc,od,oda,osl⟩:=o;dsimp only at h2 h3 h4;subst h2 h3 h4;have hi:its=cs.map Iq:=OV hc rv;subst hi;have fin:∀tk,EP X pins σ Q (.bool b) {s with toks:=tk}:=λtk=>⟨.bl b,H,I.tok tk,rfl,q⟩
 generalize ht':(Value.type t)=T at ty e;cases ty with
 | non=>cases(show u=Value.none from ru);exact BE PySem.W.kitx_none I.kIn True.intro h1 e (λz=>nomatch z) fin
 | bl y=>cases(show u=Value.bool y from ru);exact BE PySem.W.kitx_bool I.kIn True.intro h1 e (λz=>nomatch z) fin
 | int i=>obtain⟨t,q⟩:=(show ∃t,u=Value.int i t from ru);cases q;exact BE PySem.W.kitx_int I.kIn True.intro h1 e (λz=>nomatch z) fin
 | str y=>obtain⟨t,q⟩:=(show ∃t,u=Value.str y t from ru);cases q;exact BE PySem.W.kitx_str I.kIn True.intro h1 e (λz=>nomatch z) fin
 | flt y=>obtain⟨t,q⟩:=(show ∃t,u=Value.float y t from ru);cases q;exact BE PySem.W.kitx_float I.kIn True.intro h1 e (λz=>nomatch z) fin
 | @lst a xs ea=> cases(show u=Value.ref a from ru);obtain⟨_,_,n,_,g1⟩:=(show ObjOk X.prog X.w H s.heap a (.lst xs) from I.hok a _ ea);exact BE D4 I.kIn ⟨_,g1,rfl⟩ h1 e (λz=>nomatch z) fin
 | @tup a xs ea=> cases(show u=Value.ref a from ru);obtain⟨_,_,_,o,g1,g2,_⟩:=(show ObjOk X.prog X.w H s.heap a (.tup xs) from I.hok a _ ea);exact BE PySem.W.kitx_tuple I.kIn ⟨o,g1,g2⟩ h1 e (λz=>nomatch z) fin
 | @dK a kvs ea=> cases(show u=Value.ref a from ru);obtain⟨_,_,vs,_,p⟩:=(show ObjOk X.prog X.w H s.heap a (.dK kvs) from I.hok a _ ea);obtain⟨o,es,ep,g1,g2,_⟩:=p;exact BE D5 I.kIn ⟨o,g1,g2.1⟩ h1 e (λz=>nomatch z) fin
 | @frz a ob xs ea=> cases(show u=Value.ref a from ru);obtain⟨_,_,_,n,_,g1⟩:=(show ObjOk X.prog X.w H s.heap a (.frz ob (.lst xs)) from I.hok a _ ea);exact BE D4 I.kIn ⟨_,g1,rfl⟩ h1 e (λz=>nomatch z) fin
 | @dT a kvs ea=> cases(show u=Value.ref a from ru);obtain⟨_,_,xs,_,o,es,ep,g1,g2,_⟩:=(show ObjOk X.prog X.w H s.heap a (.dT kvs) from I.hok a _ ea);exact BE D5 I.kIn ⟨o,g1,g2.1⟩ h1 e (λz=>nomatch z) fin
 | ins=>cases ht'
def P_:V→Option Str
 | .non=>some "None"
 | .int i=>some (toString i)
 | _=>none
theorem X1:IZ X (.type "str") (λxs H Q=>∃x y,xs=[x]∧P_ x=some y∧(∀i,x= .int i→i.natAbs.log2<1920)∧Q (.str y) H):=by
 intro pins s σ H xs us Q I r h;obtain⟨x,y,rfl,e,hz,q⟩:=h;obtain⟨u,rfl,ru⟩:=J3 r;cases x with
 | non=> cases(show u=Value.none from ru);cases e;exact PySem.P.str_of_none ⟨.str _,H,I.tok _,⟨_,rfl⟩,q⟩
 | int i=> obtain⟨t,rfl⟩:=(show ∃t,u=Value.int i t from ru);cases e;exact PySem.P.str_of_int (hz i rfl) ⟨.str _,H,I.tok _,⟨_,rfl⟩,q⟩
 | _=>cases e
theorem Zf:typeLookup (.type "tuple") "keys"=pure none:=by rw[typeLookup_type,builtinLookup_eq_fast];kernel_rfl
set_option maxHeartbeats 4000000 in
theorem KO{prog:Bk}{w:World}{A:Bq}{E:Value→Shared→Prop}{a:Addr}{its:Array Value}{n:Nat}{sl:Array (Option Value)}{h:Heap}{g d t os}{Q:Option Value→Shared→Prop}
 (hh:A.handled=none) (hx:h.get? a=some {cls:= .type "tuple",dict:=none,data:= .seq its n,slots:=sl})
 (q:∀h' tk,(∀b o,h.get? b=some o→h'.get? b=some o)→Q none ⟨h',g,d,tk,os⟩):wpAny (model prog w) A (getAttr? (.ref a) "keys") Q E ⟨h,g,d,t,os⟩:=by
 have y0:∀tk',(⟨h,g,d,tk',os⟩:Shared).TypeIs (.ref a) "tuple":=λ_=>⟨_,hx,rfl⟩;have y1:=sub_AttributeError;have y2:=F.slot_tuple_getattribute.lookup;have y3:=F.slot_tuple_getattribute.bind (.ref a);have y4:=am_tuple_getattr_none;unfold getAttr? getAttrBy? getAttrBy
 repeat (any_goals (first
  | assumption
  | exact y0 _
  | ((with_reducible show wpAny _ _ (call (Value.builtin "tuple.__getattribute__") _ _) _ _ _)
     refine call_meets F.slot_tuple_getattribute (y0 _) am_entry_tuple_getattribute (F.args_tuple_getattribute_2 _ _) (meets_getattribute_miss_tuple a its n sl "keys" _ Zf (by decide+kernel)) ⟨hx,hh,λh' tk' e hx'=>?_⟩)
  | wp_step))
 obtain⟨t',u',he⟩:=hx'.there;show wpAny _ _ (getattributeRaised _ _ _ _ _ _ _) _ _ _;unfold getattributeRaised
 repeat (any_goals (first | assumption | wp_step))
 exact q _ _ hx'.keeps
def IS:V→Bool
 | .non=>true
 | .int _=>true
 | _=>false
def Od:V→V→Bool
 | .int i,.int j=>decide (i≤j)
 | _,_=>true
def Jt(H:Hp):V→Bool
 | .ref a=>match H a with
  | some (.tup [x,y])=>IS x && IS y && Od x y
  | _=>false
 | _=>false
def Uy(H:Hp)(v:V)(lo hi:Option Int):Prop:=∃a,v= .ref a∧H a=some (.tup [eV lo,eV hi])
def Uh:Option Int→Option Int→Bool
 | some i,some j=>decide (i≤j)
 | _,_=>true
def N1(K:Af):Sp:=λvs H Q _=>∃(v:V)(t:String),vs=[v]∧TyOf K H v (.type t)∧Q (.bl (t=="int")) H
def QE(K:Af):Sp:=λvs H Q _=>∃(v:V)(t:String),vs=[v]∧TyOf K H v (.type t)∧Q (.bl (IS v)) H
def QP(K:Af)(H:Hp)(v:V):Prop:=∀a x y,v= .ref a→H a=some (.tup [x,y])→∃t1 t2,TyOf K H x (.type t1)∧TyOf K H y (.type t2)
def Sr(K:Af):Sp:=λvs H Q _=>∃(v:V)(t:String),vs=[v]∧TyOf K H v (.type t)∧QP K H v∧Q (.bl (Jt H v)) H
def Uk:Option Int→Option Int→Bool
 | some l,some h=>decide (h<l)
 | _,_=>false
abbrev Ie:Int:=1000000000000000
def LG(i:Int):Int:=if(if i<10^(15:Int).toNat - 1 then i else 10^(15:Int).toNat - 1)>1 - 10^(15:Int).toNat then(if i<10^(15:Int).toNat - 1 then i else 10^(15:Int).toNat - 1) else 1 - 10^(15:Int).toNat
theorem Q0:(10:Int)^(15:Int).toNat=Ie:=by decide
theorem Xh(i:Int):(LG i=i∧ -Ie<i∧i<Ie)∨(LG i=Ie - 1∧Ie≤i+1)∨(LG i=1 - Ie∧i≤1 - Ie):=by
 unfold LG;rw[Q0];unfold Ie
 split<;>split<;>omega
def Oe(o:Option Int):Prop:=∀i,o=some i→ -Ie<i∧i<Ie
structure Good(lo hi:Option Int):Prop where
 le:Uh lo hi=true
 lo:Oe lo
 hi:Oe hi
def Rc:Sp:=λvs H Q _=>∃i:Int,vs=[.int i]∧Q (.int (LG i)) H
def Ss:Sp:=λvs H Q _=>∃(b g l:Addr)(n:Int),vs=[.ref b]∧Bag H b g l n∧n≤10^9∧∀(r:Int)(H':Hp), -Ie<r→r<Ie→Bag H' b g l (n+3)→SameB b g H H'→Q (.int r) H'
def Rg:Sp:=λvs H Q _=>∃(b g l:Addr)(n:Int),vs=[.ref b]∧Bag H b g l n∧n≤10^8∧∀(v:V)(lo hi:Option Int)(H':Hp),Uy H' v lo hi→Good lo hi→Bag H' b g l (n+8)→SameB b g H H'→Q v H'
theorem Jo{j:Int}(h0:0≤j)(h1:j≤1000):Q8 10 j:=⟨h0,h1,by decide⟩
def IX(c:Nat):Bool:=decide (97≤c) && decide (c≤122)
structure FieldOk(x:Str):Prop where
 one:1≤x.length
 eight:x.length≤8
 all:∀c∈x.cps.toList,IX c=true
theorem UE:("a":Str).cps.toList=[97]:=by decide+kernel
theorem UF:("z":Str).cps.toList=[122]:=by decide+kernel
def JP(f g:Str):Prop:=f.cps.toList<g.cps.toList
abbrev WP:=Str×Option Int×Option Int
def WishAt(H:Hp)(a:Addr)(w:List WP):Prop:=∃ps:List (Addr×WP),ps.map (·.2)=w∧H a=some (.tup (ps.map λp=>V.ref p.1))∧∀p∈ps,H p.1=some (.tup [.str p.2.1,eV p.2.2.1,eV p.2.2.2])
structure WOk(w:List WP):Prop where
 len:w.length≤100
 ok:∀p∈w,FieldOk p.1∧Uh p.2.1 p.2.2=true
 asc:(w.map (·.1)).Pairwise JP
abbrev PP:=Str×Int
def PieceAt(H:Hp)(a:Addr)(w:List PP):Prop:=∃ps:List (Addr×PP),ps.map (·.2)=w∧H a=some (.tup (ps.map λp=>V.ref p.1))∧∀p∈ps,H p.1=some (.tup [.str p.2.1,.int p.2.2])
theorem Sc:∀{ts:List Str}{us:List Value},Vals (ts.map V.str) us→∃l:List (Str×Tok),strValues l=us∧l.map (·.1)=ts
 | [],_,h=>by cases h;exact⟨[],rfl,rfl⟩
 | x::ts,_,h=>by
  rw[A7] at h;cases h with
  | cons r h=> obtain⟨t,rfl⟩:=r;obtain⟨l,h1,h2⟩:=Sc h;exact⟨(x,t)::l,by rw[←h1];rfl,by rw[←h2];rfl⟩
theorem TH:∀{ts:List Str}{us:List Value},Vals (ts.map V.str) us→StrsAre us ts
 | [],_,h=>by cases h;exact .nil
 | x::ts,_,h=>by
  rw[A7] at h;cases h with
  | cons r h=> obtain⟨t,rfl⟩:=r;exact .cons _ _ (TH h)
theorem TZ:∀{us:List Value}{ts:List Str},StrsAre us ts→Vals (ts.map V.str) us
 | _,_,.nil=> .nil
 | _,_,.cons n t h=> .cons ⟨t,rfl⟩ (TZ h)
def UX(K:Af):V→List V→Hp→VK→Prop:=λx vs H Q=>∃(y:Str)(a:Addr)(ts:List Str),x= .str y∧vs=[.ref a]∧SqL K H a (ts.map V.str)∧JoinOk y ts=true∧Q (.str (Di y ts)) H
theorem Mr:KT X "str.join" (UX X.K):=by intro pins s σ H x vs v us Q I rx rv h;obtain⟨y,a,ts,rfl,rfl,hq,hok,q⟩:=h;obtain⟨t,rfl⟩:=rx;obtain⟨u,rfl,ru⟩:=rv.one;cases ru;obtain⟨its,r,ht,hz⟩:=I.list hq;obtain⟨l,rfl,rfl⟩:=Sc r;unfold JoinOk at hok;rw[CB] at hok;refine call_meets F.slot_str_join (typeIs_str _ _ _) F.entry_str_join (F.args_str_join_2 _ _) (meets_str_join_list y t a l hok) ⟨ht.isList,post_join l ⟨joinFit_length hok,λt' k=>?_⟩⟩;exact⟨.str _,H,I.kept (t':=k) λb o e=>e,⟨t',rfl⟩,q⟩
theorem V9(t:BU)(n:Nat):(t.orStandIn n).led=t.led:=by unfold SetTable.orStandIn;split<;>rfl
theorem WI(t:BU)(n:Nat)(h:t.plain=false):(t.orStandIn n).plain=false:=by
 unfold SetTable.orStandIn
 split
 · exact h
 · rfl
theorem Wg(t:BU)(es:Array (Int×Value))(h:Int)(x:Value):(layNew t es h x).2.1.led=t.led:=by
 unfold layNew
 split
 · exact(V9 _ _).trans rfl
 · rfl
theorem Xl(t:BU)(es:Array (Int×Value))(h:Int)(x:Value):t.plain=false→(layNew t es h x).2.1.plain=false:=by
 intro hp;unfold layNew
 split
 · exact WI _ _ hp
 · rfl
theorem Rz{mask finger moves:Nat}{led plain:Bool}{hs:Array Int}{t:BU}{o:Array Nat}(h:SetTable.laid mask finger moves led plain hs=some (t,o)):t.led=led∧t.plain=plain:=by
 unfold SetTable.laid at h;cases h1:SetTable.layClean mask hs with
 | none=>rw[h1] at h;cases h
 | some ow=> rw[h1] at h;simp only[Option.bind_eq_bind,Option.bind_some,Option.pure_def,Option.some.injEq,Prod.mk.injEq] at h;rw[←h.1];exact⟨rfl,rfl⟩
theorem Yn(t:BU)(es:Array (Int×Value))(n:Nat):(relayAll t es n).2.1.led=t.led:=by
 unfold relayAll
 split
 · rename_i t' o h;dsimp only
   split
   · exact(Rz h).1
   · rfl
 · rfl
theorem YT(t:BU)(es:Array (Int×Value))(n:Nat)(hp:t.plain=false):(relayAll t es n).2.1.plain=false:=by
 unfold relayAll
 split
 · rename_i t' o h;dsimp only
   split
   · rw[←hp];exact(Rz h).2
   · rfl
 · rfl
def HF(w:World):Bool:=w.params.followText "set-order"
structure TxSet(prog:Bk)(w:World)(h:Heap)(a:Addr)(ks:List Str):Prop where
 at':∃(es:Array (Int×Value))(ep:Nat)(t:BU),h.get? a=some {cls:= .type "set",dict:=none,data:= .set es ep t}∧ElemsOf (strKind prog w) es.toList∧
  StrsAre (es.toList.map (·.2)) ks∧t.fits es.size=true∧t.led=!HF w∧(es.size=0∨t.plain=false)
 nodup:ks.Nodup
 few:ks.length<Eu
theorem M5:∀{vs:List Value}{ks:List Str},StrsAre vs ks→vs.length=ks.length
 | _,_,.nil=>rfl
 | _,_,.cons _ _ h=>by rw[Ax,Ax,M5 h]
theorem Ub:∀{vs us:List Value}{ks js:List Str},StrsAre vs ks→StrsAre us js→StrsAre (vs++us) (ks++js)
 | _,_,_,_,.nil,h=>h
 | _,_,_,_,.cons _ _ h',h=> .cons _ _ (Ub h' h)
theorem Pt{vs:List Value}(p:us.Perm vs):∀{ks:List Str},StrsAre vs ks→∃js,StrsAre us js∧js.Perm ks:=by
 induction p with
 | nil=>intro ks h;exact⟨ks,h,.refl _⟩
 | cons x p ih=>
  intro ks h;cases h with
  | cons y t h=> obtain⟨js,h1,h2⟩:=ih h;exact⟨y::js,.cons y t h1,h2.cons _⟩
 | swap x y l=>
  intro ks h;cases h with
  | cons y t h=>
   cases h with
   | cons y2 t2 h=>exact⟨y2::y::_,.cons _ _ (.cons _ _ h),.swap _ _ _⟩
 | trans p1 p2 ih1 ih2=> intro ks h;obtain⟨js,h1,h2⟩:=ih2 h;obtain⟨is,h3,h4⟩:=ih1 h1;exact⟨is,h3,h4.trans h2⟩
theorem Pz:∀{vs:List Value}{ks:List Str},StrsAre vs ks→∀k,k∈ks↔∃t,Value.str k t∈vs
 | _,_,.nil,k=>by simp
 | _,_,.cons y t h,k=>by
  rw[Au,Pz h k];constructor
  · rintro(rfl | ⟨u,hu⟩)
    · exact⟨t,.head _⟩
    · exact⟨u,.tail _ hu⟩
  · rintro⟨u,hu⟩;cases hu with
    | head=>exact .inl rfl
    | tail _ hu=>exact .inr ⟨u,hu⟩
theorem OC(k:Str)(t:Tok):(strKind prog w).is k (.str k t)=true:=by show Ey k (.str k t)=true;simp[Ey]
theorem Sg(h:Heap)(a:Addr)(es es':Array (Int×Value))(ep:Nat)(t t':BU)(ho:h.get? a=some {cls:= .type "set",dict:=none,data:= .set es ep t}):
 (h.update a (Obj.putSet es' t')).get? a=some {cls:= .type "set",dict:=none,data:= .set es' (ep+1) t'}:=by
 have:=Bz (Obj.putSet es' t') ho (by rw[putSet_of es' t' (o:={cls:= .type "set",dict:=none,data:= .set es ep t}) rfl];rfl);rw[putSet_of es' t' (o:={cls:= .type "set",dict:=none,data:= .set es ep t}) rfl] at this;exact this
theorem XD{ks:List Str}{k:Str}{tk:Tok}{Q:Bool→Shared→Prop}(hS:TxSet prog w s.heap a ks)(hroom:ks.length+1<Eu)
 (h:∀h' ks',BO a s.heap h'→TxSet prog w h' a ks'→ks'.length≤ks.length+1→(∀x,x∈ks'↔x∈ks∨x=k)→∀b,Q b {s with heap:=h'}):
 wpAny (model prog w) A (setAddHashed a (.str k tk) ((strKind prog w).hash k)) Q E s:=by
 obtain⟨⟨es,ep,t,ho,hel,hks,hf,hled,hpl⟩,hnd,hfew⟩:=hS;have hsz:es.size=ks.length:=by rw[←M5 hks,Ab,Ar]
 have hb:es.size<Eu:=by rw[hsz];exact hfew
 have hkey:(strKind prog w).is k (.str k tk)=true:=OC k tk;unfold setAddHashed setAddHashedIn;refine Bn (Aa (BL ho rfl hf ?_));dsimp only;rw[byScan_of (knd:=strKind prog w) rfl hb hel];simp only[↓reduceIte];unfold setAddByScan;refine Aa ?_;refine Aa (Dg ?_);refine Aa (wpAny_setScan_of (knd:=strKind prog w) hkey ho rfl hf hel ?_);have isk:∀e∈es.toList,(strKind prog w).is k e.2=true→k∈ks:=λe he q=>by obtain⟨t',q'⟩:=FB q;exact(Pz hks k).mpr ⟨t',by rw[←q'];exact BM he⟩
 cases hr:List.findIdx? (λe=>(strKind prog w).is k e.2) es.toList with
 | some j=> dsimp only;obtain⟨hj,hpj,_⟩:=List.findIdx?_eq_some_iff_getElem.mp hr;have hk:k∈ks:=isk _ (DG hj) hpj;refine Ac (Ac ?_);exact h s.heap ks (Heap.SameBut.refl a s.heap) ⟨⟨es,ep,t,ho,hel,hks,hf,hled,hpl⟩,hnd,hfew⟩ (Dm _) (λx=>⟨.inl,λq=>q.elim id λe=>e ▸ hk⟩) _
 | none=>
  dsimp only;have hk:k ∉ ks:=λhm=>by obtain⟨t',ht⟩:=(Pz hks k).mp hm;obtain⟨e,he,q⟩:=A4.mp ht;have:=List.findIdx?_eq_none_iff.mp hr e he;rw[q,OC] at this;cases this
  have hgw:∀(b:Bool){s₁:Shared}{Q':Unit→Shared→Prop},Q' () s₁→wpAny (model prog w) A (match b with | true=>rule "set.scan.the-table-gave-way" | false=>pure ()) Q' E s₁:=
   λb s₁ Q' hq=>by cases b<;>first | exact Ac hq | exact Dg hq
  have hperm:=layNew_perm t es ((strKind prog w).hash k) (.str k tk);have hfits:=layNew_fits t es ((strKind prog w).hash k) (.str k tk);have hl1:=Wg t es ((strKind prog w).hash k) (.str k tk);have hp1:=Xl t es ((strKind prog w).hash k) (.str k tk);generalize hL:layNew t es ((strKind prog w).hash k) (.str k tk)=L at hperm hfits hl1 hp1 ⊢;obtain⟨es1,t1,wasDummy,gave⟩:=L;dsimp only at hperm hfits hl1 hp1 ⊢;rw[Array.toList_push] at hperm;have hel1:ElemsOf (strKind prog w) es1.toList:=(hel.push hkey rfl).perm hperm;have h0:StrsAre ((es.toList++[((strKind prog w).hash k,Value.str k tk)]).map (·.2)) (ks++[k]):=by rw[Aj];exact Ub hks (.cons k tk .nil)
  obtain⟨k1,hk1,hkp1⟩:=Pt (hperm.map (·.2)) h0;have hsz1:es1.size=ks.length+1:=by rw[←Ar,hperm.length_eq,A3,Ar,hsz];rfl
  have nd0:(ks++[k]).Nodup:=by rw[List.nodup_append];exact⟨hnd,by simp,λx hx y hy=>by rw[Ai] at hy;subst hy;exact λe=>hk (e ▸ hx)⟩
  have fin:∀(h':Heap)(es2:Array (Int×Value))(ep2:Nat)(t2:BU),BO a s.heap h'→h'.get? a=some {cls:= .type "set",dict:=none,data:= .set es2 ep2 t2}→es2.toList.Perm es1.toList→t2.fits es2.size=true→
   t2.led=t.led→t2.plain=false→∀b,Q b {s with heap:=h'}:=λh' es2 ep2 t2 sb ho2 p2 f2 l2 pl2 b=>by
   obtain⟨k2,hk2,hkp2⟩:=Pt (p2.map (·.2)) hk1;have hp:k2.Perm (ks++[k]):=hkp2.trans hkp1;have hlen:k2.length=ks.length+1:=by rw[hp.length_eq,A3];rfl
   refine h h' k2 sb ⟨⟨es2,ep2,t2,ho2,hel1.perm p2,hk2,f2,l2.trans hled,.inr pl2⟩,hp.nodup_iff.mpr nd0,by omega⟩ (by omega) (λx=>?_) b;rw[hp.mem_iff,List.mem_append,Ai]
  refine Aa (hgw _ ?_);have tail:∀(t2:BU),t2.fits es1.size=true→t2.led=t.led→t2.plain=false→∀{R:Option Bool→Shared→Prop},(∀h',(∀b,Q b {s with heap:=h'})→R (some true) {s with heap:=h'})→
   wpAny (model prog w) A (do
    storeSet a es1 t2
    if(!wasDummy && t2.tooFull)=true then do
        (match(relayAll t2 es1 (Cr es1.size)).2.2 with | true=>rule "set.scan.the-table-gave-way" | false=>pure ())
        storeSet a (relayAll t2 es1 (Cr es1.size)).1 (relayAll t2 es1 (Cr es1.size)).2.1
        pure (some true)
     else pure (some true)) R E s:=by
   intro t2 f2 l2 pl2 R hR;refine Aa (wpAny_storeSet_of ho rfl ?_ (fits_of_scanBound (by omega)));have ho1:=Sg s.heap a es es1 ep t t2 ho;have sb1:=AU s.heap a (Obj.putSet es1 t2)
   split
   · have hp:=relayAll_perm t2 es1 (Cr es1.size);have hfr:=relayAll_fits t2 es1 (Cr es1.size);have hl2:=Yn t2 es1 (Cr es1.size);have hp2:=YT t2 es1 (Cr es1.size) pl2;generalize hRl:relayAll t2 es1 (Cr es1.size)=Rl at hp hfr hl2 hp2 ⊢;obtain⟨es2,t3,gave2⟩:=Rl;dsimp only at hp hfr hl2 hp2 ⊢;have hs2:es2.size=es1.size:=by rw[←Ar,hp.length_eq,Ar]
     refine Aa (hgw _ ?_);refine Aa (wpAny_storeSet_of ho1 rfl ?_ (fits_of_scanBound (by omega)));exact Ac (hR _ (fin _ es2 _ t3 (sb1.trans (AU _ a _)) (Sg _ a es1 es2 (ep+1) t2 t3 ho1) hp hfr (hl2.trans l2) hp2))
   · exact Ac (hR _ (fin _ es1 _ t2 sb1 ho1 (.refl _) f2 l2 pl2))
  split
  · refine Aa ?_;rw[hashByValue_scannable 8 (x:= .str k tk) rfl];refine Ac ?_;exact tail {t1 with plain:=false} (SetTable.fits_plain_off hfits) hl1 rfl λh' q=>Ac (q _)
  · rename_i hnp;refine Aa (Ac ?_);simp only[↓reduceIte];exact tail t1 hfits hl1 (by simpa using hnp) λh' q=>Ac (q _)
theorem TxSet.kept{h':Heap}{ks:List Str}(T:TxSet prog w h a ks)(k:∀o,h.get? a=some o→h'.get? a=some o):TxSet prog w h' a ks:=by obtain⟨⟨es,ep,t,ho,r⟩,b,c⟩:=T;exact⟨⟨es,ep,t,k _ ho,r⟩,b,c⟩
theorem Sb:∀{vs:List Value}{ts:List Str},StrsAre vs ts→∀(i:Nat)(v:Value),vs[i]?=some v→∃x t,v= .str x t∧ts[i]?=some x
 | _,_,.nil,i,v,h=>by simp at h
 | _,_,.cons y t hr,0,v,h=>by simp at h;exact⟨y,t,h.symm,rfl⟩
 | _,_,.cons y t hr,i+1,v,h=>by rw[D2] at h;obtain⟨x,t',e,e2⟩:=Sb hr i v h;exact⟨x,t',e,by rw[D2];exact e2⟩
section
variable{R:Result→Shared→Prop}{I:Addr}{fp wr:List Addr}{G:Array GenState→Array GenState→Prop}{P:Nat→Value→Prop}{St:Nat→Shared→Prop}
theorem XI(ts:List Str)(W:WalksS prog w A.in1 I fp wr G ts.length P St)(S:Addr)(hSf:S ∉ fp)
 (hval:∀i v,P i v→∃x t,v= .str x t∧ts[i]?=some x) (hb:ts.length+1<Eu):
 ∀(k i:Nat)(s:Shared)(ks:List Str),ts.length - i=k→i≤ts.length→St i s→TxSet prog w s.heap S ks→ks.length≤i→(∀x,x∈ks↔x∈ts.take i)→
  (∀s' ks',Moved (S::wr) G s s'→TxSet prog w s'.heap S ks'→ks'.length≤ts.length→(∀x,x∈ks'↔x∈ts)→R (.ok (.ret .none)) s')→
  codeAny (model prog w) A (.builtin "set.update.loop" ⟨[.ref S,.ref I],[]⟩) R s:=by
 have hSw:S ∉ wr:=λh=>hSf (W.sub _ h);have hsub:∀b∈wr,b∈S::wr:=λb hb=>Az _ hb;intro k
 induction k with
 | zero=>
  intro i s ks hk hi hst hS hl hm0 hR;have hin:i=ts.length:=by omega
  subst hin;refine BD Dx ?_;rw[Bw C1 _];show wpAny _ A.in1 (pyNext (.ref I)>>=_) _ _ s;refine Aa (W.done s _ _ hst λs' hm=>?_);show wpAny _ A.in1 (ret Value.none) _ _ s';exact Ac (hR s' ks (hm.mono hsub) (hS.kept λo e=>hm.heap S _ hSw e) hl (λx=>by rw[hm0,BR]))
 | succ k ih=>
  intro i s ks hk hi hst hS hl hm0 hR;have hlt:i<ts.length:=by omega
  refine BD Dx ?_;rw[Bw C1 _];show wpAny _ A.in1 (pyNext (.ref I)>>=_) _ _ s;refine Aa (W.item i s _ _ hlt hst λv s' hP hst' hm=>?_);obtain⟨x,t,rfl,hx⟩:=hval i v hP;have hS':TxSet prog w s'.heap S ks:=hS.kept λo e=>hm.heap S _ hSw e;show wpAny _ A.in1 (holding [Value.str x t] (setAdd S (.str x t))>>=_) _ _ s';refine Aa (Bn ?_);unfold setAdd;refine Bn ?_;refine Aa ((strKind prog w).pyHash (k:=x) (OC x t) ?_);refine XD (s:={s' with toks:=s'.toks+1}) hS' (by omega) λh' ks' hsb hS2 hl2 hm2 b=>?_
  refine Ac ⟨CA C1 _,ih (i+1) _ ks' (by omega) hlt (W.frame _ s' _ _ hst' (Dm _) λb hb o e=>?_) hS2 (by omega) (λy=>?_) λs'' k2 hm'' hS''=>?_⟩
  · rw[hsb.2 b (λh:b=S=>hSf (by rw[←h];exact hb))];exact e
  · rw[hm2,hm0,List.take_succ,hx];simp
  · refine hR s'' k2 (Moved.trans W.gtrans ((hm.mono hsub).then_heap (Dm _) λb o hb e=>?_) hm'') hS'';rw[hsb.2 b (λh:b=S=>hb (by rw[h];exact AD))];exact e
end
theorem YW(a:Value){Q₁:Value→Shared→Prop}
 (h:Q₁ (.ref s.heap.objs.size) {s with heap:=s.heap.push {cls:= .type "set",dict:=none,data:= .set #[] 0 (.fresh 0 0 (!HF w))}}):
 codeAny (model prog w) A (.call (.builtin "set.__new__") ⟨[.type "set",a],[]⟩) (wants Q₁ E) s:=by
 refine Fb ?_;show wpAny _ A.in1 (do checkBuiltinCall "set.__new__" ⟨[.type "set",a],[]⟩;again (.builtin "set.__new__" ⟨[.type "set",a],[]⟩)) _ _ s
 refine Aa (Ff (PySem.F.newCall_set_1 a) (Ac ⟨CA Fv _,BD PySem.F.entry_set_new ?_⟩));rw[Bw Fv _];unfold Builtin.«set.__new__» Builtin.Frozenset.newClass;have hsub:=sub_set_self;obtain⟨hp,g,d,tk,os⟩:=s;dsimp only
 wp_walk
 refine DJ (Ac ?_);dsimp only;simp only[newObj];refine Aa (wpAny_alloc (Ac ?_));exact Ac h
theorem Ys(e:h.get? a=some {cls:= .type "set",dict:=none,data:= .set #[] 0 (.fresh 0 0 (!HF w))}):TxSet prog w h a []:=
 ⟨⟨#[],0,_,e,λe he=>by simp at he,.nil,rfl,rfl,.inl rfl⟩,List.nodup_nil,by decide⟩
set_option maxHeartbeats 3200000 in
theorem Ze{l:Addr}{items:Array Value}{ts:List Str}{Q:Value→Shared→Prop}
 (hh:A.handled=none) (hl:s.heap.IsList l items) (hi:StrsAre items.toList ts) (hb:ts.length+1<Eu)
 (h:∀(h':Heap)(tk:Nat)(ks:List Str),TxSet prog w h' s.heap.objs.size ks→ks.length≤ts.length→(∀x,x∈ks↔x∈ts)→
  (∀b o,b<s.heap.objs.size→s.heap.get? b=some o→h'.get? b=some o)→Q (.ref s.heap.objs.size) {s with heap:=h',toks:=tk}):
 wpAny (model prog w) A (call (.type "set") [.ref l]) Q E s:=by
 have hsz:items.size=ts.length:=by rw[←Ar];exact M5 hi
 obtain⟨c,tl,hmro⟩:=PySem.F.called_set.mro;have hmade:=PySem.F.called_set.made;have hsub:=PySem.F.called_set.sub;refine Df (Fb ?_);show wpAny _ _ (callAny (.type "set") _) _ _ _;refine Ac ⟨Du _ (by decide+kernel),BD PySem.F.entry_type_call ?_⟩;rw[Around.under_plain (weight_type_call_type "set" [.ref l] []) rfl];have h1:=PySem.F.called_set.notType;have h2:=PySem.F.called_set.canCreate;have hct:=PySem.F.typeCall_set_1 (.ref l)
 repeat (any_goals (first | assumption | wp_step))
 refine Ch (YW (.ref l) (E:=E) (Q₁:=λobj s₁=>obj= .ref s.heap.objs.size∧s₁={s with heap:=s.heap.push {cls:= .type "set",dict:=none,data:= .set #[] 0 (.fresh 0 0 (!HF w))}}) ⟨rfl,rfl⟩) λr s₁ hr=>?_
 cases r with
 | error e=>exact hr
 | ok fl=>
  cases fl with
  | ret obj=>
   obtain⟨rfl,rfl⟩:=hr;have hS:(s.heap.push {cls:= .type "set",dict:=none,data:= .set #[] 0 (.fresh 0 0 (!HF w))}).get? s.heap.objs.size=some {cls:= .type "set",dict:=none,data:= .set #[] 0 (.fresh 0 0 (!HF w))}:=Aq _ rfl;have hT:Shared.TypeIs {s with heap:=s.heap.push {cls:= .type "set",dict:=none,data:= .set #[] 0 (.fresh 0 0 (!HF w))}} (.ref s.heap.objs.size) "set":=⟨_,hS,rfl⟩;have hli:=PySem.F.called_set.init.lookup;have hbi:=PySem.F.called_set.init.bind (.ref s.heap.objs.size)
   repeat (any_goals (first | assumption | wp_step))
   refine Ch (Ci (R:=wants (λr s₂=>r= .none∧∃h' tk ks,s₂={s with heap:=h',toks:=tk}∧TxSet prog w h' s.heap.objs.size ks∧ks.length≤ts.length∧(∀x,x∈ks↔x∈ts)∧
    (∀b o,b<s.heap.objs.size→s.heap.get? b=some o→h'.get? b=some o)) E) PySem.F.called_set.init.plain PySem.F.entry_set_init (check_set_init_1 hT ?_)) λr₂ s₂ hr₂=>?_
   · obtain⟨ol,hol,hcl,nl,hdl⟩:=hl;obtain⟨ocls,odict,odata,oslots⟩:=ol;simp only at hcl hdl;subst hcl;subst hdl;have hol':(s.heap.push {cls:= .type "set",dict:=none,data:= .set #[] 0 (.fresh 0 0 (!HF w))}).get? l=some {cls:= .type "list",dict:=odict,data:= .seq items nl,slots:=oslots}:=Ad _ hol;have hsls:=PySem.F.sub_list_set;have hslf:=PySem.F.sub_list_frozenset;have hne:(Value.type "list"==Value.type "dict")=false:=by decide
     have hl1:(s.heap.push {cls:= .type "set",dict:=none,data:= .set #[] 0 (.fresh 0 0 (!HF w))}).IsList l items:=⟨_,hol',rfl,nl,rfl⟩;unfold Builtin.«set.__init__» noKeywords Builtin.Frozenset.updateFrom;generalize hPI:pyIter=PI
     wp_walk
     subst hPI;refine E7 hl1 ?_;refine Aa (wpAny_runValue ?_);have hlS:l<s.heap.objs.size:=Ao hol;have hh3:A.in1.in1.in1.handled=none:=by simp[hh]
     have hneI:l≠(s.heap.push {cls:= .type "set",dict:=none,data:= .set #[] 0 (.fresh 0 0 (!HF w))}).objs.size:=by rw[AW];exact As (EB hlS)
     have hSf:s.heap.objs.size ∉ [(s.heap.push {cls:= .type "set",dict:=none,data:= .set #[] 0 (.fresh 0 0 (!HF w))}).objs.size,l]:=by rw[AW];simp only[Au,Ai,Bx,or_false,not_or];exact⟨As (BS _),CH hlS⟩
     have hval:∀(i:Nat)(v:Value),items[i]?=some v→∃x t,v= .str x t∧ts[i]?=some x:=λi v hv=> Sb hi i v (by rw[BN];exact hv);have W:=(Walks.list (prog:=prog) (w:=w) hh3 (s.heap.push {cls:= .type "set",dict:=none,data:= .set #[] 0 (.fresh 0 0 (!HF w))}).objs.size l hneI items).toS;rw[hsz] at W;refine XI ts W s.heap.objs.size hSf hval hb (ts.length - 0) 0 _ [] (by omega) (AX _)
      ⟨⟨_,Aq _ rfl,rfl,rfl⟩,(hl1.push _)⟩ (Ys (Ad _ hS)) (Ae _) (λx=>by simp) ?hR
     case hR=>
      intro s' ks hm hS' hlk hmk;obtain⟨h',g',d',tk',os'⟩:=s';have eg:g'=s.gens:=hm.gens;have ed:d'=s.drawn:=hm.drawn;have eo:os'=s.os:=hm.os;subst eg;subst ed;subst eo;show wpAny _ _ _ _ _ _;refine Ac ?_;show wpAny _ _ (ret Value.none) _ _ _;refine Ac ⟨rfl,h',tk',ks,rfl,hS',hlk,hmk,λb o hb e=>?_⟩;have hb1:b≠s.heap.objs.size:=As hb;have hb2:b≠(s.heap.push {cls:= .type "set",dict:=none,data:= .set #[] 0 (.fresh 0 0 (!HF w))}).objs.size:=by rw[AW];exact As (EB hb)
      exact hm.heap b o (by simp only[Au,Ai,Bx,or_false,not_or];exact⟨hb1,hb2⟩) (Ad _ (Ad _ e))
   · cases r₂ with
     | error e=>exact hr₂
     | ok fl₂=>
      cases fl₂ with
      | ret r=>
       obtain⟨rfl,h',tk,ks,rfl,hS',hlk,hmk,hk'⟩:=hr₂
       repeat (any_goals (first | assumption | wp_step))
       exact h _ _ ks hS' hlk hmk hk'
      | _=>exact hr₂.elim
  | _=>exact hr.elim
theorem Yx{M:Model}{A:Bq}{E:Value→Shared→Prop}{src:Source}{Q:Nat→Shared→Prop}(hn:0<n)(h:∀i d',i<n→Q i {s with drawn:=d'}):
 wpAny M A (choose src n) Q E s:=λΓ p hΓ=>by
 show Sem.wp M Γ (.choose src n .pure) _ _ p s;rw[Sem.wp_choose];exact⟨by omega,h _ _ (Nat.mod_lt _ hn)⟩
theorem Pi{α:Type}:∀{l:List α}{i:Nat}{x:α},l[i]?=some x→(x::l.eraseIdx i).Perm l
 | [],i,x,h=>by simp at h
 | y::l,0,x,h=>by simp at h;subst h;exact .refl _
 | y::l,i+1,x,h=>by rw[D2] at h;rw[CT];exact(List.Perm.swap _ _ _).trans ((Pi h).cons _)
theorem Sw{M:Model}{A:Bq}{E:Value→Shared→Prop}{α:Type}:∀(n:Nat)(xs:List α)(s:Shared){Q:List α→Shared→Prop},xs.length≤n→(∀ys d',ys.Perm xs→Q ys {s with drawn:=d'})→
 wpAny M A (drawOrder n xs) Q E s
 | 0,xs,s,Q,hn,h=>by have:xs=[]:=Ck.mp (Nat.le_zero.mp hn);subst this;exact Ac (h [] s.drawn (.refl _))
 | n+1,[],s,Q,hn,h=>Ac (h [] s.drawn (.refl _))
 | n+1,x::xs,s,Q,hn,h=>by
  show wpAny M A (choose .order (x::xs).length>>=_) Q E s;refine Aa (Yx (by simp) λi d1 hi=>?_);have hx:(x::xs)[i]?=some (x::xs)[i]:=AQ hi;rw[hx];show wpAny M A (drawOrder n ((x::xs).eraseIdx i)>>=_) Q E _;have hl:((x::xs).eraseIdx i).length≤n:=by rw[F8,if_pos hi];simp at hn ⊢;omega
  refine Aa (Sw n _ _ hl λys d2 hp=>Ac ?_);exact h _ d2 ((hp.cons _).trans (Pi hx))
theorem Sf{α:Type}(next:Nat→Nat):∀(n k:Nat)(left:List α)(out:Array α),left.length≤n→((pickOrder.go next n k left out).toList).Perm (out.toList++left)
 | 0,k,left,out,h=>by have:left=[]:=Ck.mp (Nat.le_zero.mp h);subst this;simp[pickOrder.go]
 | n+1,k,left,out,h=>by
  unfold pickOrder.go
  split
  · rename_i x hx;have hlt:next k%left.length<left.length:=(AM.mp hx).1
    refine(Sf next n (k+1) _ _ ?_).trans ?_
    · rw[F8,if_pos hlt];omega
    · rw[Array.toList_push,List.append_assoc];exact List.Perm.append_left _ (Pi hx)
  · rename_i hx;cases left with
    | nil=>simp
    | cons y l=>
     have:next k%(y::l).length<(y::l).length:=Nat.mod_lt _ (by simp)
     rw[AQ this] at hx;cases hx
theorem Tn{α:Type}(next:Nat→Nat)(xs:Array α):((pickOrder next xs).toList).Perm xs.toList:=by
 have:=Sf next xs.size 0 xs.toList #[] (by simp)
 simpa [pickOrder] using this
theorem Y5(a:Addr):setDrawn a=(do
 let(es,_,t) ←setState a
 let byText ←setsByText
 return !byText && (!t.plain && decide (es.size>1))):=rfl
theorem NH(a:Addr)(slot given epochThen:Nat):setNext a slot given epochThen=(do
 let(es,epoch,t) ←setState a
 if ←setsByText then
  if epoch !=epochThen then unsupported "set_iterator.__next__:elements-changed"
  return ((←setWalk a)[given]?).map λe=>(e.2,slot)
 if(!t.plain && decide (es.size>1)) then unsupported "set_iterator.__next__:the-table-is-plain-no-more"
 (do if !t.led && !es.isEmpty then unsupported "set:maker-not-led":Sem Unit)
 let i:=Da t.place slot
 return match es[i]?,t.place[i]? with
  | some (_,x),some j=>some (x,j+1)
  | _,_=>none):=rfl
namespace FS
theorem entry_set_iter:entryFor table "set.__iter__"=some Builtin.«frozenset.__iter__»:=entryFor_alias (id':="frozenset.__iter__") (by kernel_rfl) rfl (by decide+kernel) (by kernel_rfl)
theorem slot_si_next:Slot "set_iterator" "__next__" "set_iterator.__next__":=
 .of (owner:="set_iterator") (n:="__next__") (by rw[typeLookup_type,builtinLookup_eq_fast];kernel_rfl) (by decide+kernel) (by decide+kernel) (by decide+kernel)
  (by first | exact .inl (by decide+kernel) | exact .inr (by decide+kernel)) (by rw[isSubtype_type];kernel_rfl)
theorem entry_si_next:entryFor table "set_iterator.__next__"=some Builtin.«set_iterator.__next__»:=entryFor_of_tree (by kernel_rfl)
theorem args_si_next(a:Value):argsOk "set_iterator.__next__" ⟨[a],[]⟩:=by unfold argsOk;kernel_rfl
theorem slot_si_iter:Slot "set_iterator" "__iter__" "set_iterator.__iter__":=
 .of (owner:="set_iterator") (n:="__iter__") (by rw[typeLookup_type,builtinLookup_eq_fast];kernel_rfl) (by decide+kernel) (by decide+kernel) (by decide+kernel)
  (by first | exact .inl (by decide+kernel) | exact .inr (by decide+kernel)) (by rw[isSubtype_type];kernel_rfl)
theorem entry_si_iter:entryFor table "set_iterator.__iter__"=some Builtin.«dict_keyiterator.__iter__»:=
 entryFor_alias (id':="dict_keyiterator.__iter__") (by kernel_rfl) rfl (by decide+kernel) (by kernel_rfl)
theorem args_si_iter(a:Value):argsOk "set_iterator.__iter__" ⟨[a],[]⟩:=by unfold argsOk;kernel_rfl
end FS
abbrev Ms(h:Heap)(I a:Addr)(first:Value)(i n ep:Nat):Prop:=
 h.get? I=some {cls:= .type "set_iterator",dict:=none,data:= .fields #[first,.int i 0,.ref a,.int n 0,.int ep 0]}
inductive SOrd(w:World)(a:Addr)(es:Array (Int×Value))(ep:Nat)(t:BU):(Nat→Value)→List Value→List (Addr×Obj)→Prop
 | drawn (T:Addr) (places:List Nat) (h0:HF w=false) (hp:places.Perm (AY es.size)) (h2:1<es.size):
  SOrd w a es ep t (λ_=> .ref T) (places.filterMap λp=>(es[p]?).map (·.2)) [(T,{cls:= .type "tuple",data:= .seq (places.map λ(i:Nat)=>rawInt i).toArray})]
 | text (h0:HF w=true):SOrd w a es ep t (λ_=>rawInt 0) ((pickOrder (w.params.setOrder a ep) es).toList.map (·.2)) []
 | few (h0:HF w=false) (h2:es.size≤1):SOrd w a es ep t (λi=>rawInt (if i=0 then 0 else t.place.getD 0 0+1)) (es.toList.map (·.2)) []
theorem Xg(es:Array (Int×Value)):((AY es.size).filterMap λp=>(es[p]?).map (·.2))=es.toList.map (·.2):=by have:=filterMap_getElem?_range es;rw[←this,List.map_filterMap]
theorem SOrd.perm{es:Array (Int×Value)}{ep:Nat}{t:BU}{f:Nat→Value}{vs:List Value}{ob:List (Addr×Obj)}(h:SOrd w a es ep t f vs ob):vs.Perm (es.toList.map (·.2)):=by
 cases h with
 | drawn T places h0 hp h2=>rw[←Xg];exact hp.filterMap _
 | text h0=>exact(Tn _ _).map _
 | few h0 h2=>exact .refl _
theorem Ll{Q:Bool→Shared→Prop}(h:Q (HF w) s):wpAny (model prog w) A setsByText Q E s:=by unfold setsByText;exact Aa (DJ (Ac h))
theorem X8{es:Array (Int×Value)}{ep:Nat}{t:BU}{Q:Value→Shared→Prop}(ho:s.heap.get? a=some {cls:= .type "set",dict:=none,data:= .set es ep t})
 (hf:t.fits es.size=true) (hp:es.size=0∨t.plain=false) (hz:es.size≤Ag)
 (hQ:∀h' d' I f vs ob,SOrd w a es ep t f vs ob→s.heap.objs.size≤I→Ms h' I a (f 0) 0 es.size ep→(∀p∈ob,h'.get? p.1=some p.2∧s.heap.objs.size≤p.1∧p.1≠I)→(∀b o,s.heap.get? b=some o→h'.get? b=some o)→
  I<h'.objs.size→(∀p∈ob,p.1<h'.objs.size)→Q (.ref I) {s with heap:=h',drawn:=d'}):
 wpAny (model prog w) A (pyIter (.ref a)) Q E s:=by
 have hT:s.TypeIs (.ref a) "set":=⟨_,ho,rfl⟩;refine wpAny_pyIter_slot hT Fw (AZ Fw hT FS.entry_set_iter ?_ (PySem.F.args_set_iter_1 _));unfold Builtin.«frozenset.__iter__» Builtin.Frozenset.slot0 Builtin.Frozenset.sizeOf;refine Aa (Aa (m:=slotArgs _ _ _) (Ac (Ac ?_)));refine Aa (Aa (Eg ho rfl hf (Ac ?_)));dsimp only;rw[Y5];refine Aa (Aa (BL ho rfl hf (Aa (Ll (Ac ?_)))));by_cases hd:(!HF w && (!t.plain && decide (es.size>1)))=true
 · rw[if_pos hd];have hd':HF w=false∧1<es.size:=by
    simp only[A2,CB,decide_eq_true_eq] at hd;exact⟨hd.1,hd.2.2⟩
   refine Aa (Sw _ _ _ (by simp) λys d' hy=>?_);refine Aa (wpAny_newTuple ?_ (by rw[Ab,hy.length_eq,CC];exact hz));have ho2:(s.heap.push {cls:= .type "tuple",data:= .seq (ys.map λ(i:Nat)=>rawInt i).toArray}).get? a=some {cls:= .type "set",dict:=none,data:= .set es ep t}:=Ad _ ho;refine Aa (wpAny_setEpoch_of (s:={s with drawn:=d',heap:=s.heap.push {cls:= .type "tuple",data:= .seq (ys.map λ(i:Nat)=>rawInt i).toArray}}) ho2 rfl hf ?_)
   refine Aa (Ba (Ac ⟨_,rfl,"set_iterator",_,⟨_,Aq _ rfl,rfl⟩,FS.slot_si_next.lookup,?_⟩));refine hQ _ d' _ _ _ _ (.drawn s.heap.objs.size ys hd'.1 hy hd'.2) ?_ (Aq _ rfl) (λp hp=>?_) (λb o e=>Ad _ (Ad _ e)) ?_ (λp hp=>?_)
   · rw[AW];exact Dm _
   · rw[Ai] at hp;subst hp;exact⟨Ad _ (Aq _ rfl),Ae _,by rw[AW];exact As (BS _)⟩
   · simp only[AW];omega
   · rw[Ai] at hp;subst hp;show s.heap.objs.size<_;simp only[AW];omega
 · rw[if_neg hd];refine Aa (Ac ?_);refine Aa (wpAny_setEpoch_of ho rfl hf ?_);refine Aa (Ba (Ac ⟨_,rfl,"set_iterator",_,⟨_,Aq _ rfl,rfl⟩,FS.slot_si_next.lookup,?_⟩));cases hb:HF w with
   | true=> exact hQ _ s.drawn _ _ _ _ (.text hb) (Ae _) (Aq _ rfl) (λp hp=>nomatch hp) (λb o e=>Ad _ e) (by rw[AW];exact BS _) (λp hp=>nomatch hp)
   | false=>
    refine hQ _ s.drawn _ _ _ _ (.few hb ?_) (Ae _) (Aq _ rfl) (λp hp=>nomatch hp) (λb o e=>Ad _ e) (by rw[AW];exact BS _) (λp hp=>nomatch hp);rcases hp with h | h
    · omega
    · simp[hb,h] at hd;exact hd
def Oi(w:World)(I a:Addr)(es:Array (Int×Value))(ep:Nat)(t:BU)(f:Nat→Value)(ob:List (Addr×Obj))(i:Nat)(h:Heap):Prop:=
 Ms h I a (f i) i es.size ep∧h.get? a=some {cls:= .type "set",dict:=none,data:= .set es ep t}∧∀p∈ob,h.get? p.1=some p.2
theorem SW(p:Nat):Da #[p] 0=0∧Da #[p] (p+1)=1:=by
 constructor
 · simp[Da,SetTable.below.go]
 · simp[Da,SetTable.below.go]
theorem LZ{I:Addr}{first x:Value}{ep k:Nat}(hi:Ms h I a first i n ep)(f:Array Value→Array Value):
 (h.update I (CV f)).get? I=some {cls:= .type "set_iterator",dict:=none,data:= .fields (f #[first,.int i 0,.ref a,.int n 0,.int ep 0])}:=by
 have:=Bz (CV f) hi rfl;exact this
set_option maxHeartbeats 1000000 in
theorem Xt{I a:Addr}{es:Array (Int×Value)}{ep:Nat}{t:BU}{f:Nat→Value}{vs:List Value}{ob:List (Addr×Obj)}{i:Nat}{v:Value}{Q:Option Value→Shared→Prop}
 (hO:SOrd w a es ep t f vs ob) (hf:t.fits es.size=true) (hl:t.led=!HF w) (hne:a≠I) (hob:∀p∈ob,p.1≠I) (hS:Oi w I a es ep t f ob i s.heap) (hv:vs[i]?=some v)
 (hQ:∀h',Oi w I a es ep t f ob (i+1) h'→BO I s.heap h'→Q (some v) {s with heap:=h'}):
 wpAny (model prog w) A (pyNext (.ref I)) Q E s:=by
 obtain⟨hi,ha,hbs⟩:=hS;have hT:s.TypeIs (.ref I) "set_iterator":=⟨_,hi,rfl⟩;unfold pyNext;refine Aa (DE (Be (name:=BZ "__next__") hT FS.slot_si_next
  (AZ FS.slot_si_next hT FS.entry_si_next ?_ (FS.args_si_next _))))
 unfold Builtin.«set_iterator.__next__»;refine Aa (m:=slotArgs _ _ _) (Ac ?_);dsimp only;refine Aa (wpAny_fieldsOf hi rfl ?_);dsimp only;refine Aa (Eg ha rfl hf ?_);rw[if_neg (by simp)];have hil:i<vs.length:=(AM.mp hv).1;have fin:∀(first:Value)(h':Heap),BO I s.heap h'→Ms h' I a (f (i+1)) (i+1) es.size ep→Q (some v) {s with heap:=h'}:=λfirst h' sb hi'=> hQ h' ⟨hi',by rw[sb.2 a hne];exact ha,λp hp=>by rw[sb.2 p.1 (hob p hp)];exact hbs p hp⟩ sb
 cases hO with
 | drawn T places h0 hp h2=>
  dsimp only;have hTt:=hbs _ (Ai.mpr rfl);refine Aa (B0 hTt rfl ?_);have hpl:places.length=es.size:=by rw[hp.length_eq,CC]
  have hall:∀p∈places,p<es.size:=λp hm=>by simpa using hp.mem_iff.mp hm
  have hfm:∀(l:List Nat),(∀p∈l,p<es.size)→(l.filterMap λp=>(es[p]?).map (·.2))=l.map λp=>(es.getD p (0,.none)).2:=by
   intro l
   induction l with
   | nil=>intro _;rfl
   | cons q l ih=> intro hq;have hq0:q<es.size:=hq q (by simp);have h1:es[q]?=some es[q]:=AT hq0;rw[Cm,h1,A7,←ih λp hm=>hq p (by simp[hm])];simp[Array.getD,hq0]
  rw[hfm places hall,Ay] at hv;cases hpi:places[i]? with
  | none=>rw[hpi] at hv;cases hv
  | some pl=>
   rw[hpi] at hv;have hlt:pl<es.size:=hall pl (AA hpi);have hvv:v=es[pl].2:=by have:(es.getD pl (0,.none)).2=v:=Am hv;rw[←this];simp[Array.getD,hlt]
   have hpi':(places.map λ(i:Nat)=>rawInt i).toArray[i]?=some (.int pl 0):=by rw[Fx,Ay,hpi];rfl
   show wpAny _ _ (match(places.map λ(i:Nat)=>rawInt i).toArray[(i:Int).toNat]? with | some (.int place _)=>_ | some _=>_ | none=>_) _ _ _
   rw[AI,hpi'];dsimp only;unfold setNextDrawn;refine Aa (Aa (BL ha rfl hf ?_));dsimp only;rw[if_neg (by simp)];rw[AI,AT hlt];dsimp only;refine Ac ?_;refine Aa (Bt hi rfl (by simp) ?_);refine Ac ⟨_,rfl,Ac ?_⟩;rw[←hvv];exact fin v _ (AU ..) (LZ (x:=v) (k:=0) hi _)
 | text h0=>
  show wpAny _ _ (setNext a 0 (i:Int).toNat (ep:Int).toNat>>=_) _ _ _;rw[NH,AI,AI];refine Aa (Aa (BL ha rfl hf (Aa (Ll ?_))));rw[if_pos h0];dsimp only;rw[if_neg (by simp)];unfold setWalk;refine Aa (Aa (BL ha rfl hf (Aa (Ll ?_))));rw[if_pos h0];refine Aa (DJ (Ac (Ac ?_)));rw[Ay,BN] at hv;cases hpk:(pickOrder (w.params.setOrder a ep) es)[i]? with
  | none=>rw[hpk] at hv;cases hv
  | some e=>
   rw[hpk] at hv;show wpAny _ _ (match((pickOrder (w.params.setOrder a ep) es)[i]?).map λe=>(e.2,0) with | some (x,next)=>_ | none=>_) _ _ _
   rw[hpk];have hvv:e.2=v:=Am hv;dsimp only[Option.map];refine Aa (Bt hi rfl (by simp) ?_);have hi1:=LZ (x:=v) (k:=0) hi (·.setIfInBounds 0 (rawInt (0:Nat)));refine Aa (Bt (s:={s with heap:=s.heap.update I (CV (·.setIfInBounds 0 (rawInt (0:Nat))))}) hi1 rfl (by simp) ?_)
   refine Ac ⟨_,rfl,Ac ?_⟩;rw[hvv];refine fin v _ ((AU ..).trans (AU ..)) ?_;exact LZ (x:=v) (k:=0) (i:=i) (first:=rawInt 0) (n:=es.size) (ep:=ep) (a:=a) (by exact hi1) _
 | few h0 h2=>
  have hi0:i=0:=by rw[Ab,Ar] at hil;omega
  subst hi0;have hsz:es.size=1:=by rw[Ab,Ar] at hil;omega
  show wpAny _ _ (setNext a 0 (0:Int).toNat (ep:Int).toNat>>=_) _ _ _;rw[NH,AI];refine Aa (Aa (BL ha rfl hf (Aa (Ll ?_))));rw[if_neg (by rw[h0];simp)];dsimp only;rw[if_neg (by simp[hsz])];rw[hl,h0];refine Aa (m:=ite _ _ _) ?_;rw[if_neg (by simp)];refine Ac ?_;obtain⟨p,hpp⟩:∃p,t.place=#[p]:=by
   have h1:t.place.size=1:=by simp only[SetTable.fits,A2,beq_iff_eq] at hf;rw[hf.1,hsz]
   generalize t.place=tp at h1;obtain⟨pl⟩:=tp;cases pl with
   | nil=>simp at h1
   | cons p r=>cases r with
    | nil=>exact⟨p,rfl⟩
    | cons q r=>simp at h1
  obtain⟨⟨eh,ev⟩,hes⟩:∃e,es=#[e]:=by
   obtain⟨el⟩:=es;cases el with
   | nil=>simp at hsz
   | cons p r=>cases r with
    | nil=>exact⟨p,rfl⟩
    | cons q r=>simp at hsz
  subst hes;have hvv:ev=v:=by simpa using hv
  subst hvv;rw[hpp,(SW p).1];refine Ac ?_;show wpAny _ _ (setField (.ref I) 0 (rawInt ((p+1:Nat):Int))>>=_) _ _ _;refine Aa (Bt hi rfl (by simp) ?_);have hi1:=LZ (x:=ev) (k:=0) hi (·.setIfInBounds 0 (rawInt ((p+1:Nat):Int)));refine Aa (Bt (s:={s with heap:=s.heap.update I (CV (·.setIfInBounds 0 (rawInt ((p+1:Nat):Int))))}) hi1 rfl (by simp) ?_)
  refine Ac ⟨_,rfl,Ac ?_⟩;refine fin ev _ ((AU ..).trans (AU ..)) ?_;have:=LZ (x:=ev) (k:=0) (i:=0) (first:=rawInt ((p+1:Nat):Int)) (n:=1) (ep:=ep) (a:=a) (by exact hi1) (·.setIfInBounds 1 (rawInt ((0:Nat)+1:Int)))
  rw[hpp];exact this
theorem OY{h1:Heap}{I:Addr}{P:Fin→Shared→Prop}{Q:Option Value→Shared→Prop}(hh:A.handled=none)(sb:BO I s.heap h1)(hQ:∀h',Heap.ExtBut I s.heap h'→Q none {s with heap:=h'}):
 wpAny (model prog w) A.in1 (newExc (.type "StopIteration") []>>=λx=>raiseNew x) P
  (λe s'=>wpAny (model prog w) A (do if ←isInstance e (.type "StopIteration") then pure none else throw e) Q E s') {s with heap:=h1}:=by
 refine Aa ?_;simp only[newExc,newTuple];refine Aa (Ba ?_ (by size_fits));refine Aa (m:=firstArgMember _ _) (Ff (a:=Value.none) (by first | rfl | (simp only[firstArgMember];rfl)) ?_)
 refine Ba ?_ (by size_fits);simp only[raiseNew];refine Aa (wpAny_handled ?_);rw[show A.in1.handled=none from hh];refine Aa (Ac (wpAny_throw ?_));refine Aa (DH (T:="StopIteration") (b:=true) ⟨_,Aq _ rfl,rfl⟩ isSubtype_stop ?_);exact Ac (hQ _ ((sb.extBut.push _).push _))
set_option maxHeartbeats 1000000 in
theorem Xe{I a:Addr}{es:Array (Int×Value)}{ep:Nat}{t:BU}{f:Nat→Value}{vs:List Value}{ob:List (Addr×Obj)}{Q:Option Value→Shared→Prop}(hh:A.handled=none)
 (hO:SOrd w a es ep t f vs ob) (hf:t.fits es.size=true) (hl:t.led=!HF w) (hne:a≠I) (hob:∀p∈ob,p.1≠I) (hS:Oi w I a es ep t f ob es.size s.heap)
 (hQ:∀h',Heap.ExtBut I s.heap h'→Q none {s with heap:=h'}):
 wpAny (model prog w) A (pyNext (.ref I)) Q E s:=by
 obtain⟨hi,ha,hbs⟩:=hS;have hT:s.TypeIs (.ref I) "set_iterator":=⟨_,hi,rfl⟩;unfold pyNext;refine Aa (DE (Be (name:=BZ "__next__") hT FS.slot_si_next
  (AZ FS.slot_si_next hT FS.entry_si_next ?_ (FS.args_si_next _))))
 unfold Builtin.«set_iterator.__next__»;refine Aa (m:=slotArgs _ _ _) (Ac ?_);dsimp only;refine Aa (wpAny_fieldsOf hi rfl ?_);dsimp only;refine Aa (Eg ha rfl hf ?_);rw[if_neg (by simp)];cases hO with
 | drawn T places h0 hp h2=>
  dsimp only;have hTt:=hbs _ (Ai.mpr rfl);refine Aa (B0 hTt rfl ?_);have hpl:places.length=es.size:=by rw[hp.length_eq,CC]
  have hpi':(places.map λ(i:Nat)=>rawInt i).toArray[es.size]?=none:=by rw[Fx,Ay,DO (by omega)];rfl
  show wpAny _ _ (match(places.map λ(i:Nat)=>rawInt i).toArray[(es.size:Int).toNat]? with | some (.int place _)=>_ | some _=>_ | none=>_) _ _ _
  rw[AI,hpi'];dsimp only;refine Aa (Bt hi rfl (by simp) ?_);have hi1:=LZ (x:= .none) (k:=0) hi (·.setIfInBounds 0 (rawInt 0));refine Aa (Bt (s:={s with heap:=s.heap.update I (CV (·.setIfInBounds 0 (rawInt 0)))}) hi1 rfl (by simp) ?_)
  exact OY (s:=s) (I:=I) hh ((AU ..).trans (AU ..)) hQ
 | text h0=>
  show wpAny _ _ (setNext a 0 (es.size:Int).toNat (ep:Int).toNat>>=_) _ _ _;rw[NH,AI,AI];refine Aa (Aa (BL ha rfl hf (Aa (Ll ?_))));rw[if_pos h0];dsimp only;rw[if_neg (by simp)];unfold setWalk;refine Aa (Aa (BL ha rfl hf (Aa (Ll ?_))));rw[if_pos h0];refine Aa (DJ (Ac (Ac ?_)));have hpk:(pickOrder (w.params.setOrder a ep) es)[es.size]?=none:=by have h1:=(Tn (w.params.setOrder a ep) es).length_eq;rw[Ar,Ar] at h1;exact DB (by omega)
  show wpAny _ _ (match((pickOrder (w.params.setOrder a ep) es)[es.size]?).map λe=>(e.2,0) with | some (x,next)=>_ | none=>_) _ _ _
  rw[hpk];dsimp only[Option.map];refine Aa (Bt hi rfl (by simp) ?_);exact OY (s:=s) (I:=I) hh (AU ..) hQ
 | few h0 h2=>
  show wpAny _ _ (setNext a (if es.size=0 then(0:Int) else(t.place.getD 0 0:Int)+1).toNat (es.size:Int).toNat (ep:Int).toNat>>=_) _ _ _
  rw[NH,AI];refine Aa (Aa (BL ha rfl hf (Aa (Ll ?_))));rw[if_neg (by rw[h0];simp)];dsimp only;rw[if_neg (by simp;intro _;omega)];rw[hl,h0];refine Aa (m:=ite _ _ _) ?_;rw[if_neg (by simp)];refine Ac ?_;have hps:t.place.size=es.size:=by simp only[SetTable.fits,A2,beq_iff_eq] at hf;exact hf.1
  have hnone:es[Da t.place (if es.size=0 then(0:Int) else(t.place.getD 0 0:Int)+1).toNat]?=none:=by
   generalize t.place=tp at hps;obtain⟨pl⟩:=tp;cases pl with
   | nil=>
    have:es.size=0:=by simpa using hps.symm
    exact DB (by omega)
   | cons p r=>
    cases r with
    | nil=>
     have h1:es.size=1:=by simpa using hps.symm
     rw[if_neg (by omega)];have:((([p].toArray).getD 0 0:Nat):Int)+1=((p+1:Nat):Int):=rfl;rw[this,AI,(SW p).2];exact DB (by omega)
    | cons q r=>
     have:es.size=r.length+2:=by simpa using hps.symm
     omega
  rw[hnone];refine Ac ?_;show wpAny _ _ (setField (.ref I) 2 .none>>=_) _ _ _;refine Aa (Bt hi rfl (by simp) ?_);exact OY (s:=s) (I:=I) hh (AU ..) hQ
theorem Ye{I:Addr}{first:Value}{ep:Nat}{Q:Value→Shared→Prop}(hi:Ms s.heap I a first i n ep)(h:Q (.ref I) s):wpAny (model prog w) A (pyIter (.ref I)) Q E s:=by have hT:s.TypeIs (.ref I) "set_iterator":=⟨_,hi,rfl⟩;refine wpAny_pyIter_slot hT FS.slot_si_iter (AZ FS.slot_si_iter hT FS.entry_si_iter ?_ (FS.args_si_iter _));show wpAny _ _ (ret (.ref I)) _ _ s;exact Ac ⟨_,rfl,"set_iterator",_,hT,FS.slot_si_next.lookup,h⟩
theorem Yv{prog:Bk}{w:World}{I a:Addr}{es:Array (Int×Value)}{ep:Nat}{t:BU}{f:Nat→Value}{vs:List Value}{ob:List (Addr×Obj)}(hh:A.handled=none)
 (hO:SOrd w a es ep t f vs ob) (hf:t.fits es.size=true) (hl:t.led=!HF w) (hne:a≠I) (hob:∀p∈ob,p.1≠I):
 Walks prog w A I (I::a::ob.map (·.1)) [I] es.size (λi v=>vs[i]?=some v) (Oi w I a es ep t f ob) where
 sub:=λb hb=>by simp at hb;simp[hb]
 frame:=λi h h' st hk=>⟨hk I (by simp) _ st.1,hk a (by simp) _ st.2.1,λp hp=>hk p.1 (by simp;exact .inr (.inr ⟨p.2,hp⟩)) _ (st.2.2 p hp)⟩
 item:=λi s Q E hi st hQ=>by
  have hlen:vs.length=es.size:=by rw[hO.perm.length_eq,Ab,Ar]
  refine Xt hO hf hl hne hob st (v:=vs[i]'(by omega)) (AQ (by omega)) λh' st' sb=>?_;exact hQ _ h' s.toks (AQ (by omega)) st' λb o hb e=>sb.extBut b o (λh=>hb (by simp[h])) e
 done:=λs Q E st hQ=>Xe hh hO hf hl hne hob st λh' he'=>hQ h' s.toks λb o hb e=>he' b o (λh=>hb (by simp[h])) e
 self:=λ_ _ _ _ st hQ=>Ye st.1 hQ
namespace FS
theorem set_len:typeLookup (.type "set") "__len__"=pure (some (.builtin "set.__len__")):=by rw[typeLookup_type,builtinLookup_eq_fast];kernel_rfl
theorem split_set_len:splitId "set.__len__"=some ("set","__len__"):=by decide+kernel
end FS
theorem X5{Q:Bool→Shared→Prop}(hT:s.TypeIs (.ref a) "set")(h:Q false s):wpAny (model prog w) A (Ev (.ref a)) Q E s:=by
 unfold Ev;refine Aa (wpAny_specialOf hT FS.set_len ?_);dsimp only;generalize Qt:("set.__len__":String)=id0;rw[show splitId id0=some ("set","__len__") from by subst Qt;exact FS.split_set_len]
 subst Qt;dsimp only;refine Aa (DH (b:=true) hT sub_set_self ?_);simp only[Bool.not_true,Cv,if_false];refine Aa (CL hT (Ac h))
set_option maxHeartbeats 1000000 in
theorem YA{ks:List Str}{Q:List Value→Shared→Prop}(hh:A.handled=none)(T:TxSet prog w s.heap a ks)
 (hQ:∀h' d' tk vs js,StrsAre vs js→js.Perm ks→s.heap.objs.size<h'.objs.size→(∀b o,s.heap.get? b=some o→h'.get? b=some o)→Q vs {s with heap:=h',drawn:=d',toks:=tk}):
 wpAny (model prog w) A (collect (.ref a)) Q E s:=by
 obtain⟨⟨es,ep,t,ho,hel,hks,hf,hled,hpl⟩,hnd,hfew⟩:=T;have hsz:es.size=ks.length:=by rw[←M5 hks,Ab,Ar]
 have haS:a<s.heap.objs.size:=Ao ho;unfold collect;refine Aa (wpAny_runValue (BD PySem.F.entry_proto_collect ?_));rw[Bw PySem.F.plain_proto_collect _];show wpAny _ A.in1 (newList []>>=λl=>again (.builtin "list.__iadd__" ⟨[l,.ref a],[]⟩)) _ _ s;refine Aa (Ba ?_);refine Ac ⟨CA EU _,BD PySem.F.entry_list_iadd ?_⟩;rw[Bw EU _];generalize hh1:s.heap.push {cls:= .type "list",data:= .seq ([]:List Value).toArray}=h1;have hk1:∀b o,s.heap.get? b=some o→h1.get? b=some o:=λb o e=>by rw[←hh1];exact Ad _ e
 have hS1:h1.get? s.heap.objs.size=some {cls:= .type "list",data:= .seq ([]:List Value).toArray}:=by rw[←hh1];exact Aq _ rfl
 have hz1:s.heap.objs.size<h1.objs.size:=Ao hS1;show wpAny _ A.in1 (Ew (.ref s.heap.objs.size) (.ref a) (.ref s.heap.objs.size)) _ _ {s with heap:=h1}
 unfold Ew;have hT1:Shared.TypeIs {s with heap:=h1} (.ref a) "set":=⟨_,hk1 _ _ ho,rfl⟩
 refine Aa (CL hT1 ?_);have e1:CN (.ref s.heap.objs.size) (.ref a)=false:=by unfold CN;exact beq_eq_false_iff_ne.mpr (By (As haS))
 rw[if_neg (by rw[e1];decide)];refine Aa (X8 (s:={s with heap:=h1}) (hk1 _ _ ho) hf hpl (by rw[hsz];exact fits_of_scanBound hfew) λh2 d2 I f vs ob hO hI hi hob hk2 hI2 hob2=>?_)
 refine Aa (Bn (X5 (s:={s with heap:=h2,drawn:=d2}) ⟨_,hk2 _ _ (hk1 _ _ ho),rfl⟩ ?_))
 rw[if_pos (by decide)];refine Aa (Dg ?_);have hS2:h2.get? s.heap.objs.size=some {cls:= .type "list",data:= .seq ([]:List Value).toArray}:=hk2 _ _ hS1;refine Aa ?_;show wpAny _ A.in1 (updateSeq s.heap.objs.size (·.push .none)>>=λ_=>updateSeq s.heap.objs.size (·.pop)) _ _ {s with heap:=h2,drawn:=d2}
 refine Aa (EZ hS2 rfl ?_);have hS3:=Bz (CF (·.push Value.none)) hS2 rfl;refine EZ hS3 rfl ?_;have hS4:=Bz (CF (·.pop)) hS3 rfl;have oth:∀b o,b≠s.heap.objs.size→h2.get? b=some o→((h2.update s.heap.objs.size (CF (·.push Value.none))).update s.heap.objs.size (CF (·.pop))).get? b=some o:=
  λb o hb e=>(BJ _ _ (By hb)).trans ((BJ _ _ (By hb)).trans e)
 have hIne:I≠s.heap.objs.size:=By (As (Av hz1 hI));have hane:a≠I:=As (Av haS (A8 (Bb hz1) hI));have hobne:∀p∈ob,p.1≠s.heap.objs.size:=λp hp=>By (As (Av hz1 (hob p hp).2.1));have W:=(Yv (prog:=prog) (A:=A.in1) (by simpa using hh) hO hf hled hane (λp hp=>(hob p hp).2.2)).toS;have hlen:vs.length=es.size:=by rw[hO.perm.length_eq,Ab,Ar]
 obtain⟨js,hjs,hjp⟩:=Pt hO.perm hks;refine Ac ⟨CA PySem.F.plain_extend_loop _,codeAny_extend_loopS W (by rw[hsz];exact fits_of_scanBound hfew) s.heap.objs.size ?_ _ es.size 0 _ _ _ rfl (AX _)
  ⟨oth _ _ hIne hi,oth _ _ (As haS) (hk2 _ _ (hk1 _ _ ho)),λp hp=>oth _ _ (hobne p hp) (hob p hp).1⟩ hS4 (ItemsOf.nil _) λs' acc' c' hm hS' hacc=>?_⟩
 · intro hmem;rw[Au,Au,List.mem_map] at hmem;rcases hmem with h | h | ⟨p,hp,h⟩
   · exact hIne h.symm
   · exact As haS h.symm
   · exact hobne p hp h
 · show wpAny _ A (load s.heap.objs.size>>=_) _ _ s';refine Aa (wpAny_load hS' ?_);have hav:acc'.toList=vs:=by
    apply List.ext_getElem?;intro j;by_cases hj:j<es.size
    · have hj':j<acc'.size:=by rw[hacc.1];exact hj
      have h1:acc'.toList[j]?=some acc'[j]:=by rw[BN];exact AT hj'
      rw[h1];exact(hacc.2 j _ (AT hj')).symm
    · rw[DO (by rw[Ar,hacc.1];omega),DO (by omega)]
   obtain⟨h',g',d',tk',os'⟩:=s';have eg:g'=s.gens:=hm.gens;have ed:d'=d2:=hm.drawn;have eo:os'=s.os:=hm.os;subst eg;subst ed;subst eo;refine Ac ?_;rw[hav];refine hQ h' d' tk' vs js hjs hjp (Ao hS') λb o e=>?_;have hb:b<s.heap.objs.size:=Ao e;refine hm.heap b o ?_ (oth b o (As hb) (hk2 _ _ (hk1 _ _ e)));have h0:h1.objs.size≤I:=hI;simp only[Au,Bx,or_false,not_or];exact⟨As hb,As (Av hb (A8 (Bb hz1) hI))⟩
theorem Y6{ks:List Str}{Q:Value→Shared→Prop}(hh:A.handled=none)(T:TxSet prog w s.heap a ks)(h64:ks.length<64)
 (h:∀(p:Addr)(h':Heap)(d':Drawn)(tk:Nat)(out:Array Value)(ms:List Str)(e:Nat),StrsAre out.toList ms→ms.Perm ks→sortedS ms=true→s.heap.objs.size≤p→h'.get? p=some (seqObj "list" out e)→
  (∀b o,s.heap.get? b=some o→h'.get? b=some o)→Q (.ref p) {s with heap:=h',drawn:=d',toks:=tk}):
 wpAny (model prog w) A (call (.builtin "sorted") [.ref a]) Q E s:=by
 refine Calls.call_function_entry kind_sorted plain_sorted entry_sorted (args_sorted1 _) ?_;unfold Builtin.«sorted»;refine Aa (m:=checkCount "sorted" 1 1 _) (Ac ?_);refine Aa (YA (by simpa using hh) T λh1 d1 tk1 vs js hv hp hz hk=>?_);have hvl:vs.length=ks.length:=by rw[M5 hv,hp.length_eq]
 refine Aa (wpAny_newList ?_ (by rw[sizeLine_eq];omega));have hoL:(h1.push (seqObj "list" vs.toArray 0)).get? h1.objs.size=some (seqObj "list" vs.toArray 0):=Aq _ rfl;show wpAny _ _ (holding _ _>>=_) _ _ {s with heap:=h1.push (seqObj "list" vs.toArray 0),drawn:=d1,toks:=tk1}
 refine Aa (Bn (AZ slot_list_sort ⟨_,hoL,rfl⟩ entry_list_sort (list_sort_treeK strKind_oneLt hoL hv.keysOf (λv₁ v₂ rest e=>keyKind_strs (by rw[←e];exact hv)) (by omega) λst' a1 a2=>⟨_,rfl,?_⟩) (args_list_sort _)));obtain⟨ms,m1,m2,m3⟩:=sorted_out_str hv a1 a2;obtain⟨e,he⟩:=sortedHeap_at (out:=(arrOf st').map (·.2)) hoL;refine Ac ⟨_,rfl,h h1.objs.size _ d1 tk1 _ ms e m1 (m2.trans hp) m3 (Bb hz) he λb o eb=>?_⟩
 · have hb:b<h1.objs.size:=Ao (hk b o eb);rw[sortedHeap_old (As hb) (by rw[size_push'];exact EB hb)];exact Ad _ (hk b o eb)
section
variable{te:TE}{p2 p3 p4:Pos}
def XC(K:Af)(te:TE):TE:=λσ H Q=>te σ H λx H1=>∃(a:Addr)(ts:List Str),[x]=[V.ref a]∧SqL K H1 a (ts.map V.str)∧ts.length<64∧
 ∀(p:Addr)(ms:List Str),ms.Nodup→(∀x,x∈ms↔x∈ts)→ms.length≤ts.length→sortedS ms=true→H1 p=none→Q (.ref p) (GZ H1 p (.lst (ms.map V.str)))
theorem XX(hc:X.calm=true)(he:PE X e te)(hg:Gl X "sorted")(hm:X.mg "sorted"=none)(hg2:Gl X "set")(hm2:X.mg "set"=none)
 (h1:A1 [e] X.env=(false,eval e X.env)::A1 [] X.env:=by rfl)
 (h2:A1 [.Call (.Name "set" p2) [e] [] p3] X.env=(false,eval (.Call (.Name "set" p2) [e] [] p3) X.env)::A1 [] X.env:=by rfl)
 (h3:(backTo p3 (A1 [] X.env)).any (·.1)=false:=by rfl) (h4:(backTo pos (A1 [] X.env)).any (·.1)=false:=by rfl):
 PE X (.Call (.Name "sorted" p4) [.Call (.Name "set" p2) [e] [] p3] [] pos) (XC X.K te):=by
 intro pins s σ H Q I h;refine BP (KE I hg hm Xz ?_ (by decide) (by decide));refine CW ?_ h2 h4;rw[h2];show wpAny _ _ (spliced ((false,eval (.Call (.Name "set" p2) [e] [] p3) X.env)::backTo pos (A1 [] X.env))) _ _ s;refine Calls.spliced_cons ?_;refine BP (KE I hg2 hm2 U2 ?_ (by decide) (by decide));refine Cu (He (GU he GV h1 p3 pins s σ H (λvs H1=>∃(a:Addr)(ts:List Str),vs=[.ref a]∧SqL X.K H1 a (ts.map V.str)∧ts.length<64∧
  ∀(p:Addr)(ms:List Str),ms.Nodup→(∀x,x∈ms↔x∈ts)→ms.length≤ts.length→sortedS ms=true→H1 p=none→Q (.ref p) (GZ H1 p (.lst (ms.map V.str)))) I ?_) λus s1 ⟨vs,H1,I1,r1,a,ts,hv,hq,hn,q⟩=>?_) h1 h3
 · exact h
 subst hv;obtain⟨u1,rfl,v1⟩:=J3 r1;cases v1;obtain⟨its,rv,ht,hz⟩:=I1.list hq;refine Ze (I1.ok.hd hc) ht.isList (ts:=ts) (by simpa using TH rv) (by unfold Eu;omega) λh' tk ks hT hl hmem kp=>?_;have I2:Inv X pins σ H1 {s1 with heap:=h',toks:=tk}:=I1.kept λb o e=>kp b o (Ao e) e
 refine Calls.spliced_nil ?_;refine Y6 (s:={s1 with heap:=h',toks:=tk}) (I1.ok.hd hc) hT (by omega) λp h2 d2 tk2 out ms ee a1 a2 a3 a4 a5 a6=>?_
 have hn1:H1 p=none:=I2.hok.fresh a4;have I3:Inv X pins σ H1 {s1 with heap:=h',drawn:=d2,toks:=tk}:=⟨I2.ok,I2.os,I2.bare,I2.base,I2.loc,I2.cell,I2.free,I2.freeC,I2.pin,I2.hok,I2.len⟩
 refine⟨.ref p,GZ H1 p (.lst (ms.map V.str)),I3.laid (t':=tk2) a6 a4 ?_,rfl,q p ms (a2.nodup_iff.mpr hT.nodup) (λx=>(a2.mem_iff).trans (hmem x)) (by rw[a2.length_eq];exact hl) a3 hn1⟩;have hlen:ms.length≤ts.length:=by rw[a2.length_eq];exact hl
 exact⟨by rw[Ab,sizeLine_eq];omega,out.toList,ee,TZ a1,by simpa [seqObj] using a5⟩
end
theorem Sa{y:Str}(h:x.cps.toList=y.cps.toList):x=y:=by obtain⟨a⟩:=x;obtain⟨b⟩:=y;congr;exact FK.mp h
theorem Wk{y:Str}(h:¬JP x y)(n:x≠y):JP y x:=by
 unfold JP at*;rcases Std.lt_trichotomy (α:=List Nat) x.cps.toList y.cps.toList with h1 | h1 | h1
 · exact absurd h1 h
 · exact absurd (Sa h1) n
 · exact h1
theorem Xr{y z:Str}(h:JP x y)(h2:JP y z):JP x z:=List.lt_trans h h2
theorem Tq:∀(r:List Str)(p:Str),risingS p r=true→(p::r).Nodup→(p::r).Pairwise JP
 | [],p,_,_=>List.pairwise_singleton _ _
 | x::r,p,h,n=>by
  unfold risingS at h;rw[A2,CB,ltCps_eq,decide_eq_false_iff_not] at h;rw[List.nodup_cons] at n;have px:JP p x:=Wk (x:=x) (y:=p) h.1 (λe=>n.1 (by rw[←e];exact AD));have ih:=Tq r x h.2 n.2;rw[List.pairwise_cons];refine⟨λy hy=>?_,ih⟩;rcases Au.mp hy with rfl | hy
  · exact px
  · exact Xr px ((List.pairwise_cons.mp ih).1 y hy)
theorem Yf{ms:List Str}(h:sortedS ms=true)(n:ms.Nodup):ms.Pairwise JP:=by
 cases ms with
 | nil=>exact .nil
 | cons x r=>exact Tq r x h n
structure POk(p:List PP):Prop where
 len:p.length≤100
 ok:∀x∈p,FieldOk x.1
 asc:(p.map (·.1)).Pairwise JP
def TF:Sp:=λvs H Q _=>∃(b g l:Addr)(n:Int),vs=[.ref b]∧Bag H b g l n∧n≤10^8∧∀(x:Str)(H':Hp),FieldOk x→Bag H' b g l (n+12)→SameB b g H H'→Q (.str x) H'
def Ua:Sp:=λvs H Q _=>∃(b g l:Addr)(n most:Int),vs=[.ref b,.int most]∧Bag H b g l n∧n≤10^7∧0≤most∧most≤9∧
 ∀(r:Addr)(fs:List Str)(H':Hp),H r=none→H' r=some (.lst (fs.map V.str))→fs.Pairwise JP→(∀f∈fs,FieldOk f)→(fs.length:Int)≤most→Bag H' b g l (n+200)→SameB b g H H'→Q (.ref r) H'
theorem az:("abcdefghijklmnopqrstuvwxyz":Str).cps.toList=(AY 26).map (· +97):=by decide+kernel
theorem QA{r:Int}(h0:0≤r)(h1:r<26):∃c,Ir ("abcdefghijklmnopqrstuvwxyz":Str).cps.toList r=some c∧IX c=true:=by
 rw[az];obtain⟨k,rfl⟩:∃k:Nat,r=k:=⟨r.toNat,by omega⟩;have hk:k<26:=by omega
 refine⟨k+97,?_,?_⟩
 · refine Jh ?_;rw[Ay,Eh hk];rfl
 · unfold IX;rw[A2];exact⟨decide_eq_true (by omega),decide_eq_true (by omega)⟩
theorem T3:∀(cs:List Nat),(Di ("":Str) (cs.map λc=>(⟨#[c]⟩:Str))).cps.toList=cs
 | []=>rfl
 | [c]=>rfl
 | c::d::r=>by
  have ih:=T3 (d::r);have e:∀(ts:List Str),Di ("":Str) ts=DI ("":Str) ts:=λts=>Fy _ _;rw[e] at ih ⊢;show((⟨#[c]⟩:Str)++("":Str)++DI ("":Str) ((d::r).map λc=>(⟨#[c]⟩:Str))).cps.toList=_;have:((⟨#[c]⟩:Str)++("":Str)++DI ("":Str) ((d::r).map λc=>(⟨#[c]⟩:Str))).cps.toList=c::(DI ("":Str) ((d::r).map λc=>(⟨#[c]⟩:Str))).cps.toList:=by show(#[c]++#[]++_:Array Nat).toList=_;simp
  rw[this,ih]
theorem RJ(cs:List Nat)(h:cs.length≤1000):JoinOk ("":Str) (cs.map λc=>(⟨#[c]⟩:Str))=true:=by
 unfold JoinOk;rw[CB];refine EK (B:=1) (λy hy=>?_) ?_
 · obtain⟨c,_,rfl⟩:=A4.mp hy;exact Ae 1
 · rw[Ab];show cs.length*1+cs.length*0≤_;omega
theorem TV{cs:List Nat}(h1:1≤cs.length)(h8:cs.length≤8)(ok:∀c∈cs,IX c=true):FieldOk (Di ("":Str) (cs.map λc=>(⟨#[c]⟩:Str))):=by
 have e:=T3 cs;have hl:(Di ("":Str) (cs.map λc=>(⟨#[c]⟩:Str))).length=cs.length:=by show Array.size _=_;rw[←Ar,e]
 exact⟨by rw[hl];exact h1,by rw[hl];exact h8,by rw[e];exact ok⟩
theorem SameB.off{g p:Addr}{H':Hp}{o:HO}(s:SameB b g H H')(hp:H p=none):SameB b g H (GZ H' p o):=λa x h n1 n2=>by
 have:a≠p:=λe=>by rw[e,hp] at h;cases h
 rw[Hk this];exact s a x h n1 n2
theorem Bag.off{g l p:Addr}{n:Int}{o:HO}(B:Bag H b g l n)(pb:p≠b)(pg:p≠g)(pl:p≠l):Bag (GZ H p o) b g l n:=by obtain⟨gs,ls,c,st,e1,e2,e3,r⟩:=B.ex;exact⟨⟨gs,ls,c,st,by rw[Hk pb.symm];exact e1,by rw[Hk pg.symm];exact e2,by rw[Hk pl.symm];exact e3,r⟩,B.gl⟩
theorem SameB.none{g p:Addr}{H':Hp}(s:SameB b g H H')(hp:H' p=none)(pb:p≠b)(pg:p≠g):H p=none:=by
 cases e:H p with
 | none=>rfl
 | some o=>rw[s p o e pb pg] at hp;cases hp
namespace FS
end FS
section
variable{κ:Type}[DecidableEq κ]{knd:PySem.KeyKind prog w κ}
end
def Qt(b g:Addr)(H:Hp):Hp:=λa=>if a=b∨a=g then none else H a
def nw(H H':Hp):Hp:=λa=>match H a with | none=>H' a | some _=>none
theorem LU{H':Hp}{o:HO}(h:nw H H' a=some o):H a=none∧H' a=some o:=by
 unfold nw at h;cases e:H a with
 | none=>rw[e] at h;exact⟨rfl,h⟩
 | some x=>rw[e] at h;cases h
theorem Lc{H':Hp}{o:HO}(h:H a=none)(h':H' a=some o):nw H H' a=some o:=by unfold nw;rw[h];exact h'
theorem UT(H H':Hp):Same (nw H H') H':=λa o h=>(LU h).2
theorem R5{H0 H':Hp}(t:∀a,H a=none→H0 a=none):Same (nw H H') (nw H0 H'):=λa o h=>Lc (t a (LU h).1) (LU h).2
theorem OR{H1 H2:Hp}(s:∀a o,H a=none→H1 a=some o→H2 a=some o):Same (nw H H1) (nw H H2):=λa o h=>Lc (LU h).1 (s a o (LU h).1 (LU h).2)
theorem WH{H1 H2:Hp}{g:Addr}(hb:H b≠none)(hg:H g≠none)(s:SameB b g H1 H2):Same (nw H H1) (nw H H2):=
 OR λa o h1 h2=>s a o h2 (λz=>hb (z ▸ h1)) (λz=>hg (z ▸ h1))
theorem R6{H1 H2:Hp}(s:Same H1 H2):Same (nw H H1) (nw H H2):=OR λa o _ h=>s a o h
theorem Bag.trk{g l:Addr}{n:Int}(B:Bag H b g l n):H b≠none∧H g≠none:=by
 obtain⟨gs,ls,c,st,h1,h2,_⟩:=B.ex;refine⟨?_,?_⟩
 · rw[h1];exact Dn _
 · rw[h2];exact Dn _
theorem SameB.back{H':Hp}{g l:Addr}{n:Int}(B:Bag H' b g l n)(s:SameB b g H H'):∀a,H' a=Option.none→H a=Option.none:=λa h=>by
 cases e:H a with
 | none=>rfl
 | some o=> have h1:a≠b:=λz=>B.trk.1 (z ▸ h);have h2:a≠g:=λz=>B.trk.2 (z ▸ h);rw[s a o e h1 h2] at h;cases h
theorem VL{g p:Addr}{H':Hp}{o:HO}(s:SameB b g H H')(hp:H p=none):SameB b g H (GZ H' p o):=λa x h n1 n2=>by
 have:a≠p:=λz=>by rw[z,hp] at h;cases h
 rw[Hk this];exact s a x h n1 n2
theorem Vu{g l p:Addr}{n:Int}{o:HO}(B:Bag H b g l n)(pb:p≠b)(pg:p≠g)(pl:p≠l):Bag (GZ H p o) b g l n:=by obtain⟨⟨gs,ls,c,st,h1,h2,h3,h4⟩,gl⟩:=B;exact⟨⟨gs,ls,c,st,by rw[Hk pb.symm];exact h1,by rw[Hk pg.symm];exact h2,by rw[Hk pl.symm];exact h3,h4⟩,gl⟩
def Mj(D:Nat)(sp:Nat→Sp):Sp:=λvs H Q E=>∃n,n≤D∧sp n vs H Q E
section
variable{mg:Str→Option Value}{base:Heap}
def Vb:Sp:=λ_ _ _ _=>False
theorem O5{st:Stmt}{f:Addr}{fd:Bf}{N ps:List Str}(F:Fun K x x st f fd)(S:FnScope N ps (Hg st))(b:Binds K fd ps [])(M:mg x=some (.ref f))(L:Nat)(sp:Nat→Sp)
 (step:∀n sp0,(∀m,n=m+1→sp0=sp m)→HR P w K mg base (L+1+n) x ps sp0→FnOk P w K mg base HH (L+1+n+1) f fd ps (sp n)):∀n,FnOk P w K mg base HH (L+1+n+1) f fd ps (sp n)
 | 0=>step 0 Vb (λm z=>by cases z) ⟨f,fd,F.ok (k:=L) S (λ_ _ _ _ h=>h.elim) (λ_ _ _ _ _ _ _ _ _ h=>h.elim),b,F.kp,M⟩
 | n+1=>step (n+1) (sp n) (λm z=>by cases z;rfl) ⟨f,fd,O5 F S b M L sp step n,b,F.kp,M⟩
theorem RM{f:Addr}{fd:Bf}{ps:List Str}{L D:Nat}{sp:Nat→Sp}(h:∀n,FnOk P w K mg base HH (L+1+n+1) f fd ps (sp n)):FnOk P w K mg base HH (L+D+2) f fd ps (Mj D sp):=
 ⟨λvs H Q E ⟨n,_,q⟩=>(h n).len vs H Q E q,λA outer s H args us vs Q E hr he hb hv ⟨n,hn,q⟩=>(h n).run A outer s H args us vs Q E (hr.mono (by omega)) he hb hv q⟩
end
def MJ(K:Af):R2:=λx y H Q=>∃p xs i v,x= .ref p∧y= .int i∧(SqL K H p xs∨SqT K H p xs)∧Ir xs i=some v∧Q v H
theorem VN:KU X (MJ X.K):=by
 intro value slice pins s σ H x y v u Q I rx ry h hs;obtain⟨p,xs,i,z,rfl,rfl,hq,he,q⟩:=h;rcases hq with hq | hq
 · exact Ig value slice pins s σ H _ _ v u Q I rx ry ⟨p,xs,i,z,rfl,rfl,hq,he,q⟩ hs
 · exact Jl value slice pins s σ H _ _ v u Q I rx ry ⟨p,xs,i,z,rfl,rfl,hq,he,q⟩ hs
theorem RI(K:Af)(h:X.K=K):KU X (MJ K):=by subst h;exact VN
theorem RepYs.nil:RepYs H [] []:=by rw[RepYs]
theorem RepYs.cons{d:DY}{ds:List DY}{x:V}(h:RepY H d x)(hs:RepYs H ds xs):RepYs H (d::ds) (x::xs):=by rw[RepYs];exact⟨x,xs,rfl,h,hs⟩
theorem LW{ds:List DY}(h:H a=some (.lst xs))(hs:RepYs H ds xs)(hl:xs.length≤2500):RepY H (.lst ds) (.ref a):=by rw[RepY];exact⟨a,xs,rfl,h,by rw[←hs.length];exact hl,hs⟩
theorem Ml{ds:List DY}(h:H a=some (.tup xs))(hs:RepYs H ds xs)(hl:xs.length≤2500):RepY H (.tup ds) (.ref a):=by rw[RepY];exact⟨a,xs,rfl,h,by rw[←hs.length];exact hl,hs⟩
theorem VH{d:DY}{u:V}(h:H a=some (.dK [(.inr "a",u)]))(hs:RepY H d u):RepY H (.da d) (.ref a):=by rw[RepY];exact⟨a,u,rfl,h,hs⟩
theorem NR:∀{ds:List DY}{m:Nat},(∀d∈ds,HW d≤m)→Jx ds≤m
 | [],m,_=>by rw[Jx];exact AX _
 | d::ds,m,h=>by rw[Jx];have h1:=h d (AD ..);have h2:=NR λe he=>h e (Az _ he);omega
theorem Ph:∀{ds:List DY}{d:DY},d∈ds→HW d≤Jx ds
 | [],d,h=>nomatch h
 | e::ds,d,h=>by
  rw[Jx];rcases Au.mp h with rfl | h
  · omega
  · have:=Ph h;omega
theorem Nl{t u:TS}{D:Ends}(M:St→Hp→Prop)(h1:∀Z:St→Hp→Prop,(∀σ' H',M σ' H'→Z σ' H')→t {D with nx:=Z} σ H)(h2:∀σ' H',M σ' H'→u D σ' H'):K0 t u D σ H:=h1 (u D) h2
theorem PL{c:TT}{t u v:TS}{D:Ends}(M:Bool→Hp→Prop)(h:∀R:Bool→Hp→Prop,(∀b H',M b H'→R b H')→c σ H R)(k1:∀H',M true H'→t {D with nx:=v D} σ H')(k2:∀H',M false H'→u {D with nx:=v D} σ H'):K0 (MA c t u) v D σ H:=
 h _ λb H' m=>by cases b with | true=>exact GX (k1 H' m) | false=>exact GW (k2 H' m)
theorem IA{v:V}{Q:St→Hp→Prop}(h:Q (σ.set i (some v)) H):LF i v σ H Q:=h
open PySem.AutoSeq1 (wpAny_loadPart')
open PySem.MeetsSeq PySem.MeetsSeq2 PySem.MeetsSeq3 PySem.SeqRoads2 PySem.Calls
theorem YD(l b:Addr)(items items2:Array Value)(n n2:Nat)(dd dd2:Option Addr)(sl sl2:Array (Option Value))(hsz:items.size=items2.size)(k:Nat):
 ∀i:Nat,items.size - i=k→∀(A:Bq)(R:Result→Shared→Prop)(s:Shared),s.heap.get? l=some {cls:= .type "list",dict:=dd,data:= .seq items n,slots:=sl}→s.heap.get? b=some {cls:= .type "list",dict:=dd2,data:= .seq items2 n2,slots:=sl2}→
  (∀j(h1:j<items.size)(h2:j<items2.size),EqIn P w A.in1 s items[j] items2[j])→R (.ok (.ret (.bool false))) s→
  wpAny (model P w) A.in1 (Builtin.«list.__eq__.loop» ⟨[.ref l,.ref b,rawInt i,rawInt 3],[]⟩) (λfin s'=>match fin with | .done f=>R (.ok f) s' | .again c'=>c'.quiet=true∧codeAny (model P w) A c' R s') (λe s'=>R (.error e) s') s:=by
 induction k with
 | zero=>
  intro i hk A R s hl hb he h;obtain⟨hp,g,d,tk,os⟩:=s
  wp_walk using AN hl,AN hb
  have o1:items[((i:Nat):Int).toNat]?=none:=by simp;omega
  have o2:items2[((i:Nat):Int).toNat]?=none:=by simp;omega
  rw[o1,o2]
  wp_walk using AN hl,AN hb
  show R (.ok (.ret (.bool (items.size !=items2.size)))) _;rw[hsz];simpa using h
 | succ k ih=>
  intro i hk A R s hl hb he h;obtain⟨hp,g,d,tk,os⟩:=s
  wp_walk using AN hl,AN hb
  have lt1:i<items.size:=by omega
  have lt2:i<items2.size:=by omega
  have o1:items[((i:Nat):Int).toNat]?=some items[i]:=by simp[lt1]
  have o2:items2[((i:Nat):Int).toNat]?=some items2[i]:=by simp[lt2]
  have hc:((i:Int)+1)=((i+1:Nat):Int):=by push_cast;rfl
  rw[o1,o2];refine Aa (he i lt1 lt2 _ _ ?_)
  wp_walk
  rw[hc];exact⟨CA plain_eq_loop _,BD entry_eq_loop (by rw[Bw plain_eq_loop _];exact ih (i+1) (by omega) A R _ hl hb he h)⟩
theorem V3(l b:Addr)(items items2:Array Value)(n n2:Nat)(dd dd2:Option Addr)(sl sl2:Array (Option Value))(hsz:items.size=items2.size)(A:Bq)(R:Result→Shared→Prop)(s:Shared)
 (hl:s.heap.get? l=some {cls:= .type "list",dict:=dd,data:= .seq items n,slots:=sl}) (hb:s.heap.get? b=some {cls:= .type "list",dict:=dd2,data:= .seq items2 n2,slots:=sl2})
 (he:∀j(h1:j<items.size)(h2:j<items2.size),EqIn P w A.in1 s items[j] items2[j]) (h:R (.ok (.ret (.bool false))) s):
 wpAny (model P w) A.in1 (Builtin.«list.__ne__» ⟨[.ref l,.ref b],[]⟩) (λfin s'=>match fin with | .done f=>R (.ok f) s' | .again c'=>c'.quiet=true∧codeAny (model P w) A c' R s') (λe s'=>R (.error e) s') s:=by
 obtain⟨hp,g,d,tk,os⟩:=s;have f3:=Fl;have hne:¬(items.size !=items2.size)=true:=by simp[hsz]
 wp_walk using AN hl,AN hb
 exact⟨CA plain_eq_loop _,BD entry_eq_loop (by rw[Bw plain_eq_loop _];exact YD l b items items2 n n2 dd dd2 sl sl2 hsz _ 0 rfl A R _ hl hb he h)⟩
theorem Wz{l:Addr}{items items2:Array Value}{E:Value→Shared→Prop}{Q:Value→Shared→Prop}(hl:s.heap.IsList l items)(hb:s.heap.IsList b items2)(hsz:items.size=items2.size)(hu:A.units<cLine)
 (he:∀j(h1:j<items.size)(h2:j<items2.size),EqIn P w A.in1 s items[j] items2[j]) (h:Q (.bool false) s):wpAny (model P w) A (richCompare .NotEq (.ref l) (.ref b)) Q E s:=by
 obtain⟨⟨c1,dd,data,sl⟩,ho,hc,n,hd⟩:=id hl;obtain⟨⟨c2,dd2,data2,sl2⟩,ho2,hc2,n2,hd2⟩:=id hb;simp only at hc hd hc2 hd2;subst hc hd hc2 hd2;refine Cz (op:= .NotEq) ⟨_,ho,rfl⟩ ⟨_,ho2,rfl⟩ F.slot_list_ne ?_ hu;refine Df (Ci F.slot_list_ne.plain F.entry_list_ne (F.slot_list_ne.check _ _ _ _ _ _ _ _ ⟨_,ho,rfl⟩ (F.args_list_ne_2 _ _) ?_));exact V3 l b items items2 n n2 dd dd2 sl sl2 hsz A (wants (λv s'=>v≠ .notImplemented∧Q v s') E) s ho ho2 he (show Value.bool false≠Value.notImplemented∧Q (.bool false) s from⟨(λx=>nomatch x),h⟩)
section
variable{κ:Type}[DecidableEq κ]{knd:KeyKind P w κ}
end
def Uj:DY→Bool
 | .tup _=>true
 | _=>false
def QO:DY→Bool
 | .str _=>true
 | _=>false
def Kb:DY→Bool
 | .int _=>true
 | _=>false
def HE:DY→Bool
 | .non=>true
 | .int _=>true
 | _=>false
def Lx:DY→DY→Bool
 | .int i,.int j=>decide (i≤j)
 | _,_=>true
def KA:DY→Bool
 | .tup [x,y]=>HE x && HE y && Lx x y
 | _=>false
def J6(x:Str):Bool:=decide (1≤x.length) && decide (x.length≤8) && x.cps.toList.all IX
def Jk:DY→Bool
 | .str x=>J6 x
 | _=>false
def JL:DY→Bool
 | .tup [f,lo,hi]=>Jk f && KA (.tup [lo,hi])
 | _=>false
def JJ:DY→Bool
 | .tup [f,n]=>Jk f && Kb n
 | _=>false
def JG:DY→Option Str
 | .tup (.str x::_)=>some x
 | _=>none
def HY:List DY→Bool
 | d::e::r=>(match JG d,JG e with | some x,some y=>decide (x.cps.toList<y.cps.toList) | _,_=>false) && HY (e::r)
 | _=>true
def Ng:DY→Bool
 | .tup ds=>ds.all JL && HY ds
 | _=>false
def Nk:DY→Bool
 | .tup ds=>ds.all JJ && HY ds
 | _=>false
def JM(f:DY→Bool):Sp:=λvs H Q _=>∃(v:V)(d:DY),vs=[v]∧RepY H d v∧∀H',Same H H'→Q (.bl (f d)) H'
def RX(P:List DY→Prop)(f:List DY→Bool):Sp:=λvs H Q _=>∃(v:V)(ds:List DY),vs=[v]∧RepY H (.tup ds) v∧P ds∧∀H',Same H H'→Q (.bl (f ds)) H'
theorem Tf(d:DY):(Uf d=="int")=Kb d:=by cases d<;>rfl
theorem QU{d:DY}{v:V}(h:RepY H d v):IS v=HE d:=by
 cases d with
 | non=>rw[RepY] at h;subst h;rfl
 | bl b=>rw[RepY] at h;subst h;rfl
 | int i=>rw[RepY] at h;subst h;rfl
 | str x=>rw[RepY] at h;obtain⟨rfl,_⟩:=h;rfl
 | lst ds=>rw[RepY] at h;obtain⟨a,xs,rfl,_⟩:=h;rfl
 | tup ds=>rw[RepY] at h;obtain⟨a,xs,rfl,_⟩:=h;rfl
 | dic=>rw[RepY] at h;obtain⟨a,rfl,_⟩:=h;rfl
 | da d=>rw[RepY] at h;obtain⟨a,u,rfl,_⟩:=h;rfl
theorem UP{d e:DY}{v w:V}(h:RepY H d v)(h':RepY H e w)(hd:HE d=true)(he:HE e=true):Od v w=Lx d e:=by
 cases d with
 | non=>rw[RepY] at h;subst h;cases e<;>first | (rw[RepY] at h';subst h';rfl) | (cases he)
 | int i=>rw[RepY] at h;subst h;cases e<;>first | (rw[RepY] at h';subst h';rfl) | (cases he)
 | _=>cases hd
theorem RepYs.two{d e:DY}(h:RepYs H [d,e] xs):∃x y,xs=[x,y]∧RepY H d x∧RepY H e y:=by rw[RepYs] at h;obtain⟨x,r,rfl,h1,h⟩:=h;rw[RepYs] at h;obtain⟨y,r,rfl,h2,h⟩:=h;rw[RepYs] at h;subst h;exact⟨x,y,rfl,h1,h2⟩
theorem RepYs.three{d e f:DY}(h:RepYs H [d,e,f] xs):∃x y z,xs=[x,y,z]∧RepY H d x∧RepY H e y∧RepY H f z:=by rw[RepYs] at h;obtain⟨x,r,rfl,h1,h⟩:=h;obtain⟨y,z,rfl,h2,h3⟩:=h.two;exact⟨x,y,z,rfl,h1,h2,h3⟩
theorem RepYs.mk2{d e:DY}{x y:V}(h1:RepY H d x)(h2:RepY H e y):RepYs H [d,e] [x,y]:=by rw[RepYs];refine⟨x,[y],rfl,h1,?_⟩;rw[RepYs];refine⟨y,[],rfl,h2,?_⟩;rw[RepYs]
theorem Yg{ds:List DY}(h:ds.length≠2):KA (.tup ds)=false:=by
 match ds,h with
 | [],_=>rfl
 | [_],_=>rfl
 | [_,_],h=>exact absurd rfl h
 | _::_::_::_,_=>rfl
theorem V_{d:DY}{v:V}(h:RepY H d v):Jt H v=KA d∧QP K H v:=by
 cases d with
 | tup ds=>
  rw[RepY] at h;obtain⟨a,xs,rfl,h1,h0,h2⟩:=h;by_cases hl:ds.length=2
  · obtain⟨x,y,rfl⟩:∃x y,ds=[x,y]:=by
     match ds,hl with
     | [x,y],_=>exact⟨x,y,rfl⟩
    obtain⟨u,w,rfl,r1,r2⟩:=h2.two;refine⟨?_,?_⟩
    · unfold Jt;simp only[h1];show(IS u && IS w && Od u w)=(HE x && HE y && Lx x y);rw[QU r1,QU r2];cases e1:HE x with
      | false=>rfl
      | true=>
       cases e2:HE y with
       | false=>rfl
       | true=>rw[UP r1 r2 e1 e2]
    · intro a' p q e e';cases e;rw[h1] at e';injection e' with e'
      injection e' with e'
      injection e' with z1 z2
      injection z2 with z2 _
      subst z1 z2;exact⟨_,_,r1.ty,r2.ty⟩
  · have lx:=h2.length;refine⟨?_,?_⟩
    · rw[Yg hl];unfold Jt;simp only[h1]
      match xs,lx with
      | [],_=>rfl
      | [_],_=>rfl
      | [_,_],lx=>exact absurd lx.symm hl
      | _::_::_::_,_=>rfl
    · intro a' p q e e';cases e;rw[h1] at e';injection e' with e'
      injection e' with e'
      subst e';exact absurd lx.symm hl
 | non=>rw[RepY] at h;subst h;exact⟨rfl,λa x y e _=>by cases e⟩
 | bl b=>rw[RepY] at h;subst h;exact⟨rfl,λa x y e _=>by cases e⟩
 | int i=>rw[RepY] at h;subst h;exact⟨rfl,λa x y e _=>by cases e⟩
 | str x=>rw[RepY] at h;obtain⟨rfl,_⟩:=h;exact⟨rfl,λa x y e _=>by cases e⟩
 | lst ds=> rw[RepY] at h;obtain⟨a,xs,rfl,h1,_⟩:=h;exact⟨by unfold Jt;simp only[h1];rfl,λa' x y e e'=>by cases e;rw[h1] at e';cases e'⟩
 | dic=> rw[RepY] at h;obtain⟨a,rfl,h1⟩:=h;exact⟨by unfold Jt;simp only[h1];rfl,λa' x y e e'=>by cases e;rw[h1] at e';cases e'⟩
 | da d=> rw[RepY] at h;obtain⟨a,u,rfl,h1,_⟩:=h;exact⟨by unfold Jt;simp only[h1];rfl,λa' x y e e'=>by cases e;rw[h1] at e';cases e'⟩
theorem UJ(c:Nat):(!decide ((⟨#[c]⟩:Str).cps.toList<("a":Str).cps.toList))=decide (97≤c):=by
 rw[UE];show(!decide (([c]:List Nat)<[97]))=_;by_cases h:97≤c
 · have:¬([c]:List Nat)<[97]:=by
    intro z;cases z with
    | rel z=>exact absurd z (by omega)
    | cons z=>cases z
   rw[decide_eq_false this,decide_eq_true h];rfl
 · have:([c]:List Nat)<[97]:=List.Lex.rel (by omega);rw[decide_eq_true this,decide_eq_false h];rfl
theorem UQ(c:Nat):(!decide (("z":Str).cps.toList<(⟨#[c]⟩:Str).cps.toList))=decide (c≤122):=by
 rw[UF];show(!decide (([122]:List Nat)<[c]))=_;by_cases h:c≤122
 · have:¬([122]:List Nat)<[c]:=by
    intro z;cases z with
    | rel z=>exact absurd z (by omega)
    | cons z=>cases z
   rw[decide_eq_false this,decide_eq_true h];rfl
 · have:([122]:List Nat)<[c]:=List.Lex.rel (by omega);rw[decide_eq_true this,decide_eq_false h];rfl
theorem O7{α:Type}(f:α→Bool)(l:List α):(l.map f).all id=l.all f:=by
 induction l with
 | nil=>rfl
 | cons x l ih=>rw[A7,C9,C9,ih];rfl
theorem Kc{P:Prop}(h:false=true):P:=absurd h Aw
theorem Pw{d:DY}(h:Jk d=true):∃x,d= .str x∧J6 x=true:=by
 cases d with
 | str x=>exact⟨x,rfl,h⟩
 | _=>exact Kc h
theorem Yy{d:DY}(h:JL d=true):∃x lo hi,d= .tup [.str x,lo,hi]∧J6 x=true∧KA (.tup [lo,hi])=true:=by
 cases d with
 | tup ds=>
  match ds,h with
  | [],h=>exact Kc h
  | [_],h=>exact Kc h
  | [_,_],h=>exact Kc h
  | [f,lo,hi],h=> obtain⟨h1,h2⟩:=(A2 _ _).mp (show(Jk f && KA (.tup [lo,hi]))=true from h);obtain⟨x,rfl,h3⟩:=Pw h1;exact⟨x,lo,hi,rfl,h3,h2⟩
  | _::_::_::_::_,h=>exact Kc h
 | _=>exact Kc h
theorem XZ{d:DY}(h:JJ d=true):∃x n,d= .tup [.str x,n]∧J6 x=true∧Kb n=true:=by
 cases d with
 | tup ds=>
  match ds,h with
  | [],h=>exact Kc h
  | [_],h=>exact Kc h
  | [f,n],h=> obtain⟨h1,h2⟩:=(A2 _ _).mp (show(Jk f && Kb n)=true from h);obtain⟨x,rfl,h3⟩:=Pw h1;exact⟨x,n,rfl,h3,h2⟩
  | _::_::_::_,h=>exact Kc h
 | _=>exact Kc h
theorem TK{d:DY}(h:JL d=true):(JG d).isSome=true:=by obtain⟨x,lo,hi,rfl,_⟩:=Yy h;rfl
theorem T9{d:DY}(h:JJ d=true):(JG d).isSome=true:=by obtain⟨x,n,rfl,_⟩:=XZ h;rfl
theorem Tg{ds:List DY}(h:ds.length≠3):JL (.tup ds)=false:=by
 match ds,h with
 | [],_=>rfl
 | [_],_=>rfl
 | [_,_],_=>rfl
 | [_,_,_],h=>exact absurd rfl h
 | _::_::_::_::_,_=>rfl
theorem To{ds:List DY}(h:ds.length≠2):JJ (.tup ds)=false:=by
 match ds,h with
 | [],_=>rfl
 | [_],_=>rfl
 | [_,_],h=>exact absurd rfl h
 | _::_::_::_,_=>rfl
theorem OM{d:DY}{v:V}(h:RepY H d v)(e:JG d=some x):∃a r,v= .ref a∧H a=some (.tup (.str x::r)):=by
 match d,e with
 | .tup (.str y::ds),e=> rw[RepY] at h;obtain⟨a,xs,rfl,h1,_,h2⟩:=h;rw[RepYs] at h2;obtain⟨z,r,rfl,h3,_⟩:=h2;rw[RepY] at h3;obtain⟨rfl,_⟩:=h3;have e:some y=some x:=e;cases e;exact⟨a,r,rfl,h1⟩
def Iu(d e:DY):Bool:=match JG d,JG e with
 | some x,some y=>decide (x.cps.toList<y.cps.toList)
 | _,_=>false
theorem RK{d e:DY}{y:Str}(h1:JG d=some x)(h2:JG e=some y):Iu d e=decide (x.cps.toList<y.cps.toList):=by unfold Iu;rw[h1,h2]
theorem N7:∀ds:List DY,HY ds=((AY (ds.length - 1)).map (λi=>Iu (ds.getD i .non) (ds.getD (i+1) .non))).all id
 | []=>rfl
 | [d]=>rfl
 | d::e::r=>by
  have ih:=N7 (e::r);have l1:(d::e::r).length - 1=r.length+1:=by simp
  have l2:(e::r).length - 1=r.length:=by simp
  rw[l1,D9,A7,C9,C2];rw[l2] at ih;show(_ && HY (e::r))=_;rw[ih];rfl
theorem Yk(lo hi:Option Int)(n:Nat):(AG lo hi 1 n).length≤n∧∀j,hi=some j→0≤j→((AG lo hi 1 n).length:Int)≤j:=by refine⟨indices_len_le lo hi n,λj e h0=>?_⟩;subst e;unfold AG sliceRange;cases lo<;>simp only[show(1:Int)>0 by decide,if_true,Ab,CC]<;>(split<;>(try split)<;>(try split)<;>(try simp only[Int.ediv_one])<;>omega)
theorem WW(k:Nat)(a:Array Nat)(b:Array Nat):((Ce k a).foldl (· ++ ·) b).size=b.size+k*a.size:=by
 induction k generalizing b with
 | zero=>simp
 | succ k ih=>rw[FE,List.foldl_cons,ih,E9,Nat.succ_mul];omega
theorem Sn:∀ts:List Str,Reps K H (ts.map PD.str) (ts.map V.str)
 | []=>by show Reps K H [] [];rw[Reps]
 | n::ns=>by show Reps K H (.str n::ns.map PD.str) (.str n::ns.map V.str);rw[Reps];exact⟨_,_,rfl,by rw[GY],Sn ns⟩
theorem TR:∀ts:List Str,Jc (ts.map PD.str)=0
 | []=>by show Jc []=0;rw[Jc]
 | n::ns=>by
  show Jc (.str n::ns.map PD.str)=0;rw[Jc,TR ns,IL]
  all_goals simp
theorem U9{p:Addr}{ts:List Str}{Q:VK}(h:SqL K H a (ts.map V.str))(hp:SqL K H p [])(q:Q (.bl ts.isEmpty) H):MK K (.ref a) (.ref p) H Q:=by
 refine⟨.lst (ts.map PD.str),.lst [],by rw[GY];exact⟨a,_,rfl,h,Sn ts⟩,by rw[GY];exact⟨p,_,rfl,hp,by rw[Reps]⟩,by rw[IL,TR];decide,?_⟩;cases ts with
 | nil=>rw[Hw,show Jv (([]:List Str).map PD.str) []=true from M3 []];exact q
 | cons n ns=>rw[Hw,Ks (by simp)];exact q
open PySem.Builtin PySem.Builtin.Str
section
theorem Te:∀l:List (Str×Tok),Vals ((l.map (·.1)).map V.str) (strValues l)
 | []=> .nil
 | p::l=> .cons ⟨p.2,rfl⟩ (Te l)
def VF:V→List V→Hp→VK→Prop:=λx vs H Q=>∃(y z:Str),x= .str y∧vs=[.str z]∧(z.length==0)=false∧y.length≤100000∧∀p,H p=none→Q (.ref p) (GZ H p (.lst ((AR y z).map V.str)))
theorem OP:KT X "str.split" VF:=by
 intro pins s σ H x vs v us Q I rx rv h;obtain⟨y,z,rfl,rfl,hz,hl,q⟩:=h;obtain⟨t,rfl⟩:=(show ∃t,v=Value.str y t from rx);obtain⟨u0,rfl,ru⟩:=rv.one;obtain⟨u,rfl⟩:=(show ∃t,u0=Value.str z t from ru);have hsz:(100004:Nat)≤Ag:=by decide
 have hn:(partsBetween y (occurrences y z 0 y.length (y.length+1)) z.length).length≤Ag:=by have e1:=StrLaws.occ_length_le y z 0 y.length (y.length+1);rw[length_partsBetween];omega
 have fin:∀(l:List (Str×Tok))(k:Nat),l.map (·.1)=AR y z→l.length≤Ag→EP X pins σ Q (.ref s.heap.objs.size) {s with heap:=s.heap.push {cls:= .type "list",data:= .seq (strValues l).toArray},toks:=k}:=λl k e hl'=>
  ⟨.ref s.heap.objs.size,_,I.lnew (ys:=(AR y z).map V.str) (its:=strValues l) (by rw[←e];exact Te l) (by rw[Ab,←e,Ab];exact hl'),rfl,q _ I.fresh⟩
 cases h1:(decide (y.length<z.length) || decide (strKind y<strKind z))
 · cases hf:(occurrences y z 0 y.length (y.length+1)).isEmpty
   · refine call_meets Co (typeIs_str _ _ _) EC (Ex _ _) (meets_str_split_sep y z t u h1 hz hf (by omega) hn) ?_;show wants (EP X pins σ Q) X.xe _ {s with toks:=_,heap:=s.heap.push {cls:= .type "list",data:= .seq (strsFrom s.toks (partsBetween y (occurrences y z 0 y.length (y.length+1)) z.length)).toArray}}
     rw[strsFrom_eq];refine fin (numbered s.toks _) _ ((numbered_texts _ _).trans ((if_neg (ne_true_of_eq_false h1)).trans (if_neg (ne_true_of_eq_false hf))).symm) ?_;have:=congrArg BC (numbered_texts s.toks (partsBetween y (occurrences y z 0 y.length (y.length+1)) z.length));rw[Ab] at this;omega
   · exact call_meets Co (typeIs_str _ _ _) EC (Ex _ _) (meets_str_split_not_found y z t u h1 hz hf)
      (fin [(y,t)] s.toks ((if_neg (ne_true_of_eq_false h1)).trans (if_pos hf)).symm (by show 1≤Ag;decide))
 · exact call_meets Co (typeIs_str _ _ _) EC (Ex _ _) (meets_str_split_cannot_occur y z t u h1)
    (fin [(y,t)] s.toks (if_pos h1).symm (by show 1≤Ag;decide))
def UZ:V→List V→Hp→VK→Prop:=λx vs H Q=>∃(y z:Str),x= .str y∧vs=[.str z]∧(z.length==0)=false∧y.length≤100000∧∀p,H p=none→Q (.ref p) (GZ H p (.tup [.str (Ah y z).1,.str (Ah y z).2.1,.str (Ah y z).2.2]))
theorem KN:KT X "str.partition" UZ:=by
 intro pins s σ H x vs v us Q I rx rv h;obtain⟨y,z,rfl,rfl,hz,hl,q⟩:=h;obtain⟨t,rfl⟩:=(show ∃t,v=Value.str y t from rx);obtain⟨u0,rfl,ru⟩:=rv.one;obtain⟨u,rfl⟩:=(show ∃t,u0=Value.str z t from ru);have hsz:(100004:Nat)≤Ag:=by decide
 refine call_meets F.slot_str_partition (typeIs_str _ _ _) F.entry_str_partition (F.args_str_partition_2 _ _) (meets_str_partition y z t u hz (by omega)) ?_;have fin:∀(a b c:Tok)(k:Nat),EP X pins σ Q (.ref s.heap.objs.size) {s with heap:=s.heap.push {cls:= .type "tuple",data:= .seq [.str (Ah y z).1 a,.str (Ah y z).2.1 b,.str (Ah y z).2.2 c].toArray},toks:=k}:=λa b c k=>by refine⟨.ref s.heap.objs.size,_,I.laid (o:= .tup [.str (Ah y z).1,.str (Ah y z).2.1,.str (Ah y z).2.2]) (λ_ _ e=>Ad _ e) (Ae _) ?_,rfl,q _ I.fresh⟩;exact⟨(by show 3≤Ag;decide),_,.cons ⟨a,rfl⟩ (.cons ⟨b,rfl⟩ (.cons ⟨c,rfl⟩ .nil)),_,Aq _ rfl,rfl,rfl,0,rfl⟩
 unfold Ah at fin
 revert fin
 cases occurrences y z 0 y.length 1 with
 | nil=>intro fin;exact fin _ _ _ _
 | cons i r=>intro fin;exact fin _ _ _ _
def Wy:V→List V→Hp→VK→Prop:=λx vs H Q=>∃(y z:Str),x= .str y∧vs=[.str z]∧Q (.bl (decide (0+z.length≤y.length) && subAt y z 0)) H
theorem Zh:KT X "str.startswith" Wy:=by intro pins s σ H x vs v us Q I rx rv h;obtain⟨y,z,rfl,rfl,q⟩:=h;obtain⟨t,rfl⟩:=(show ∃t,v=Value.str y t from rx);obtain⟨u0,rfl,ru⟩:=rv.one;obtain⟨u,rfl⟩:=(show ∃t,u0=Value.str z t from ru);exact call_gives F.slot_str_startswith (typeIs_str _ _ _) F.entry_str_startswith (F.args_str_startswith_2 _ _) (gives_str_startswith y z t u) ⟨.bl _,H,I,rfl,q⟩
theorem Ta:IZ X (.type "int") (λxs H Q=>∃(x:Str)(n:Int),xs=[.str x]∧x.length≤640∧Fz x=some n∧Q (.int n) H):=by intro pins s σ H xs us Q I r h;obtain⟨x,n,rfl,hl,hn,q⟩:=h;obtain⟨u,rfl,ru⟩:=J3 r;obtain⟨t,rfl⟩:=(show ∃t,u=Value.str x t from ru);exact PySem.W.KIN.call_text hn hl ⟨.int n,H,I.tok _,⟨_,rfl⟩,q⟩
theorem H_(a b:Str):(a++b).length=a.length+b.length:=by show(a.cps++b.cps).size=a.cps.size+b.cps.size;exact E9
abbrev TJ:=St→Hp→Str→(Str→Hp→Prop)→Prop
variable{es:List Expr}{te:TE}{t:TJ}{p:Pos}
end
open PySem.Builtin PySem.Builtin.Str PySem.NumText
def sg(x:Str):List Nat:=x.cps.toList
theorem Ka{y:Str}(h:sg x=sg y):x=y:=Sa h
theorem Mi(x y:Str):sg (x++y)=sg x++sg y:=by show(x.cps++y.cps).toList=_;rw[FF];rfl
theorem IG(x:Str):x.length=(sg x).length:=by unfold sg;simp[Str.length]
def jn(sep:List Nat):List (List Nat)→List Nat
 | []=>[]
 | [w]=>w
 | w::v::r=>w++sep++jn sep (v::r)
theorem Nw(sep:Str):∀ws:List Str,sg (DI sep ws)=jn (sg sep) (ws.map sg)
 | []=>rfl
 | [w]=>rfl
 | w::v::r=>by have ih:=Nw sep (v::r);show sg (w++sep++DI sep (v::r))=_;rw[Mi,Mi,ih];rfl
theorem NI(sep:Str)(ws:List Str):sg (Di sep ws)=jn (sg sep) (ws.map sg):=by show sg (glued sep ws)=_;rw[Fy,Nw]
theorem OX(x y:Str):AR x y≠[]:=by
 unfold AR
 split
 · simp
 · split
   · simp
   · rw[StrLaws.partsBetween_eq];obtain⟨p,r,e⟩:=StrLaws.partsFrom_ne x y.length 0 (occurrences x y 0 x.length (x.length+1));rw[e];simp
open PySem.W.KIN in
theorem Qh(m:Nat):sg (BZ (toString ((m:Nat):Int)))=(Nat.toDigits 10 m).map Char.toNat:=signs_num m
def IH(n:Int):List Nat:=sg (BZ (toString n))
theorem WG(m:Nat):IH (m:Int)=(Nat.toDigits 10 m).map Char.toNat:=Qh m
theorem SQ(m:Nat):∀c∈IH (m:Int),48≤c∧c≤57:=by intro c hc;rw[WG] at hc;obtain⟨ch,hch,e⟩:=A4.mp hc;rw[←e];exact digit_range (Nat.isDigit_of_mem_toDigits (by decide) (by decide) hch)
theorem SS(m:Nat)(h:0<m):IH (-(m:Int))=45::IH (m:Int):=by obtain⟨k,rfl⟩:∃k,m=k+1:=⟨m - 1,by omega⟩;unfold IH sg;rw[signs_ofString,signs_ofString];have e1:toString (-((k+1:Nat):Int))="-"++Nat.repr (k+1):=rfl;have e2:toString (((k+1:Nat):Int))=Nat.repr (k+1):=rfl;rw[e1,e2,String.toList_append,Aj];rfl
theorem T7{m:Nat}(hk:0<k)(h:m<10^k):(IH (m:Int)).length≤k:=by have:=toString_length_le (v:=(m:Int)) (k:=k) (by omega) hk (by exact_mod_cast h);unfold IH;rw[←IG];exact this
theorem XT(n:Int):∀c∈IH n,c=45∨(48≤c∧c≤57):=by
 rcases Int.lt_or_le n 0 with h | h
 · obtain⟨m,rfl,hm⟩:∃m:Nat,n= -(m:Int)∧0<m:=⟨n.natAbs,by omega,by omega⟩;rw[SS m hm];intro c hc;rcases Au.mp hc with e | e
   · exact .inl e
   · exact .inr (SQ m c e)
 · obtain⟨m,rfl⟩:=BH h;exact λc hc=> .inr (SQ m c hc)
def Ij:Option Int→List Nat
 | none=>[42]
 | some n=>IH n
open PySem.Builtin PySem.Builtin.Str PySem.NumText
theorem QV{α β:Type}{f:α→Option β}{g:α→β}:∀{l:List α},(∀i∈l,f i=some (g i))→l.filterMap f=l.map g
 | [],_=>rfl
 | a::l,h=>by rw[Cm,h a AD,A7,QV λi hi=>h i (Az _ hi)]
theorem Wa(n:Nat)(h:1≤n):AG (some 1) none 1 n=(AY (n - 1)).map (· +1):=by
 unfold AG sliceRange;simp only[show(1:Int)>0 by decide,if_true];have e1:max 0 (min (if(1:Int)<0 then 1+(n:Int) else 1) (n:Int))=1:=by rw[if_neg (by decide)];omega
 rw[e1];have e2:(if(1:Int)<(n:Int) then((n:Int) - 1+1 - 1) / 1 else 0).toNat=n - 1:=by split<;>omega
 rw[e2];refine FG λk _=>?_;omega
def Wx:V→Option Int→Option Int→Hp→VK→Prop:=λx lo hi H Q=>∃y:Str,x= .str y∧lo=some 1∧hi=none∧1≤y.length∧y.length≤100000∧∀z:Str,sg z=(sg y).drop 1→Q (.str z) H
theorem So:L6 X Wx:=by
 intro pins s σ H x v vl vu lo hi sl Q I rx hs pl pu h;obtain⟨y,rfl,rfl,rfl,h1,hl,q⟩:=h;obtain⟨t,rfl⟩:=(show ∃t,v=Value.str y t from rx);obtain⟨l,el,e1⟩:∃l:Option (Int×Tok),vl=partValue l∧l.map (·.1)=some 1:=by
  cases pl with
  | int i t=>exact⟨some (1,t),rfl,rfl⟩
 obtain⟨u,eu,e2⟩:∃l:Option (Int×Tok),vu=partValue l∧l.map (·.1)=none:=by
  cases pu with
  | none=>exact⟨none,rfl,rfl⟩
 have hS:s.heap.IsSlice sl l u none:=by obtain⟨o,h1,h2,h3⟩:=hs;exact⟨o,h1,h2,by rw[h3,el,eu];rfl⟩
 have pk:slicePicked y l u none=(AY (y.length - 1)).map (· +1):=by unfold slicePicked;rw[e1,e2];exact Wa _ h1
 have hsz:(100000:Nat)≤Ag:=by decide
 refine⟨"str",_,C3.lookup,typeIs_str s y t,?_⟩;refine getItem_meets (typeIs_str s y t) (by decide) C3 Ei (D_ _ _) (meets_str_getitem_slice y t sl l u none rfl) ⟨hS,?_⟩;unfold sliceMade;rw[pk];have hl2:y.length=(sg y).length:=IG y;have key:((AY (y.length - 1)).map (· +1)).filterMap (y.cps[·]?)=(sg y).drop 1:=by
  rw[List.filterMap_map];rw[QV (g:=λi=>(sg y).getD (i+1) 0)]
  rotate_left
  · intro i hi;have hi:=Cc.mp hi;show y.cps[i+1]?=_;have h5:i+1<(sg y).length:=by omega
    have h6:y.cps[i+1]?=(sg y)[i+1]?:=by unfold sg;simp
    rw[h6,AQ h5,Bs,AQ h5];rfl
  apply List.ext_getElem
  · simp;omega
  · intro i h5 h6;simp at h5;simp only[List.getElem_map,List.getElem_range,List.getElem_drop];rw[Bs,AQ (by omega)];simp[Nat.add_comm]
 split
 · rename_i hc;simp at hc;omega
 · have hz:(⟨(((AY (y.length - 1)).map (· +1)).filterMap (y.cps[·]?)).toArray⟩:Str).length≤Ag:=by
    rw[IG];show(Db _ _).toArray.toList.length≤_;rw[CQ,key,CK];omega
   refine⟨hz,⟨.str _,H,I.tok _,⟨_,rfl⟩,q _ ?_⟩⟩;show(Db _ _).toArray.toList=_;rw[CQ,key]
section
variable{C0:Addr}{body suite:List Stmt}{b₀:Stmt}{np hpos:Pos}{tb:(St→Value→Hp→Prop)→TS}{ts:TS}
end
section
variable{M:Model}
theorem UB{base:Heap}{l:List Env}{e:Addr}{cls a0 fl:Value}{fr:Option Addr}{Q:Unit→Shared→Prop}
 (hkb:base.StaysIn s.heap) (hl:s.heap.FunFrames base l) (ht:s.heap.TracedAtW base e cls a0 fl)
 (h:∀h',base.StaysIn h'→h'.FunFrames base l→h'.TracedAtW base e cls a0 (fr.elim Value.none λf=>rawInt f)→(∀b o,s.heap.get? b=some o→(∀vs,o.data≠ .fields vs)→h'.get? b=some o)→Q () {s with heap:=h'}):
 wpAny M A (setFlight (.ref e) fr) Q E s:=by
 obtain⟨oe,vs,T,oT,ts,he,hcls,hd,h1,hnT,hTe,hT,hdT,h3⟩:=ht;have hsz3:3<ts.size:=(Dl.mp h3).1;have other:∀b,b≠T→(s.heap.update T (CV (·.setIfInBounds 3 (fr.elim Value.none λf=>rawInt f)))).get? b=s.heap.get? b:=
  λb hb=>BJ _ _ (By hb)
 have noRecord:∀b o,s.heap.get? b=some o→(∀vs,o.data≠ .fields vs)→b≠T:=λb o hb hnf q=>by rw[q,hT] at hb;injection hb with hb;subst hb;exact hnf ts hdT
 unfold setFlight;refine Aa (AV he hd h1 ?_);rw[if_pos (show(Value.ref T !=Value.none)=true from by simp)]
 refine Bt hT hdT hsz3 (h _ (λb o hbo=>(other b λq=>by rw[q,hnT] at hbo;cases hbo).trans (hkb b o hbo))
  (hl.of_keeps λb o hb hnf=>⟨o,(other b (noRecord b o hb hnf)).trans hb,rfl⟩) ?_ λb o hb hnf=>(other b (noRecord b o hb hnf)).trans hb)
 exact⟨oe,vs,T,_,_,(other e (By hTe)).trans he,hcls,hd,h1,hnT,hTe,Bz _ hT (Fs (Dv hdT _)),Dv hdT _,by simp[hsz3]⟩
theorem W3{α:Type}{base:Heap}{l:List Env}{e:Addr}{cls a0 fl:Value}{what:String}{cenv:Env}{Q:α→Shared→Prop}
 (hkb:base.StaysIn s.heap) (hl:s.heap.FunFrames base l) (ht:s.heap.TracedAtW base e cls a0 fl)
 (h:∀h' fl',base.StaysIn h'→h'.FunFrames base l→h'.TracedAtW base e cls a0 fl'→(∀b o,s.heap.get? b=some o→(∀vs,o.data≠ .fields vs)→h'.get? b=some o)→E (.ref e) {s with heap:=h'}):
 wpAny M A (EL what (.ref e) cenv:Sem α) Q E s:=by
 have ht0:=ht;obtain⟨oe,vs,T,oT,ts,he,hcls,hd,h1,hnT,hTe,hT,hdT,h3⟩:=ht;unfold EL;refine Aa (AV he hd h1 ?_);rw[if_neg (show ¬((Value.ref T==Value.none)=true) from by simp)]
 refine Aa (UB hkb hl ht0 λh' k1 k2 k3 k4=>?_);exact wpAny_throw (h h' _ k1 k2 k3 k4)
theorem Xf{base:Heap}{env:Env}{outer:List Env}{L e:Addr}{cls a0 fl:Value}{Q:Unit→Shared→Prop}
 (hfr:A.frames=some (env::outer)) (hl:s.heap.FunFrames base (env::outer)) (hf:env.frame=some L) (ht:s.heap.TracedAtW base e cls a0 fl) (hkb:base.StaysIn s.heap) (hen:base.get? e=none)
 (h:∀h',Heap.LeftW base (env::outer) e cls a0 s.heap h'→Q () {s with heap:=h'}):wpAny M A (leaving env (.ref e)) Q E s:=by
 by_cases hL:fl=rawInt L
 · subst hL;unfold leaving;refine Aa (wpAny_noteFrame_againW hf ht ?_);exact wpAny_setFlight_noneW hkb hl ht λh' k1 k2 k3 k4=>h h' ⟨k1,k2,k3,λb o hb hn=>⟨o.slots,k4 b o hb hn⟩⟩
 obtain⟨oe,vs,T,oT,ts,he,⟨hcls,h0⟩,hd,h1,hnT,hTe,hT,hdT,h3⟩:=ht;subst hcls;unfold leaving noteFrame;simp only[hf];refine Aa (Aa (AV he hd h1 ?_));rw[if_pos (show(Value.ref T !=Value.none)=true from by simp)]
 refine Aa (AV hT hdT h3 ?_);rw[if_neg (show ¬((fl==rawInt L)=true) from λq=>hL (eq_of_beq q))];refine Aa (Bt hT hdT (Dl.mp h3).1 ?_);have other:∀b,b≠T→(s.heap.update T (CV (·.setIfInBounds 3 Value.none))).get? b=s.heap.get? b:=λb hb=>BJ _ _ (By hb);have noRecord:∀b o,s.heap.get? b=some o→(∀vs,o.data≠ .fields vs)→b≠T:=λb o hb hnf q=>by rw[q,hT] at hb;injection hb with hb;subst hb;exact hnf ts hdT
 refine wpAny_newEntryW hfr (hl.of_keeps λb o hb hnf=>⟨o,(other b (noRecord b o hb hnf)).trans hb,rfl⟩) hf ((other e (By hTe)).trans he)
  (λb o hbo=>(other b λq=>by rw[q,hnT] at hbo;cases hbo).trans (hkb b o hbo)) hen hd (Dl.mp h1).1 h0
  λh' ⟨x1,x2,x3,x4⟩=>h h' ⟨x1,x2,x3,λb o hb hnf=>x4 b o ((other b (noRecord b o hb hnf)).trans hb) hnf⟩
theorem Uc{B B':Heap}(k:∀b,B.get? b=none→B'.get? b=none):∀{l:List Env},h.FunFrames B l→h.FunFrames B' l
 | [],_=>trivial
 | _::_,⟨hk,⟨L,o,hf,hn,ho,hd⟩,hr⟩=>⟨hk,⟨L,o,hf,k L hn,ho,hd⟩,Uc k hr⟩
theorem TU{h' B:Heap}{C:Addr}(k:∀b o,b≠C→h.get? b=some o→h'.get? b=some o):∀{l:List Env},C ∉ HN l→h.FunFrames B l→h'.FunFrames B l
 | [],_,_=>trivial
 | env::r,hc,⟨hk,⟨L,o,hf,hn,ho,hd⟩,hr⟩=>⟨hk,⟨L,o,hf,hn,k L o (λz=>hc (Cd.mpr ⟨env,AD,by rw[hf,z]⟩)) ho,hd⟩,
  TU k (λz=>hc (by obtain⟨e,he,q⟩:=Cd.mp z;exact Cd.mpr ⟨e,Az _ he,q⟩)) hr⟩
end
structure Outs(X:Cx)(E:XK):Prop where
 st:X.stack=X.env::X.outer
 fr:X.env.frame=some X.env.locals
 ex:X.ex=[]
 xe:∀e s',wpAny (model X.prog X.w) X.A (leaving X.env e) (λ_ s''=>IQ X.prog X.w X.base X.outer X.H₀ X.s₀ E e s'') (λe' s''=>IQ X.prog X.w X.base X.outer X.H₀ X.s₀ E e' s'') s'→X.xe e s'
theorem R8{P:Bk}{w:World}{K:Af}{mg:Str→Option Value}{base:Heap}{N:List Str}{qual:Str}{scope:Scope}{f:Addr}{cd:Value}{A:Bq}{outer:List Env}{s:Shared}{H:Hp}{E:XK}:
 Outs (Ic (IQ P w base) P w K mg base N qual scope f cd A outer s H E) E:=⟨rfl,rfl,rfl,λ_ _ h=>h⟩
theorem Xn{E:XK}{H':Hp}{s':Shared}{a Cl t C:Addr}{B:Heap}(O:Outs X E)(I':Inv X pins σ H' s')
 (fl:DW B X.stack a (.ref Cl) (.ref t) s'.heap) (bs:X.base.StaysIn B) (tr:∀b u,H' b=some u→∃o,B.get? b=some o)
 (old:∀b o,X.s₀.heap.get? b=some o→b ∉ HN X.outer→∃o',B.get? b=some o') (free:H' a=none) (hC:X.s₀.heap.objs.size≤C) (hCH:H' C=none) (hCf:C ∉ HN X.stack) {m:Str→Option Value} (hCn:s'.heap.Ns C m) (hE:E (.ref Cl) none H')
 {what:String} {E1:Value→Shared→Prop}:
 wpAny (model X.prog X.w) X.A (noteFrame (.ref a) X.env) (λ_ s1=>(∃m,s1.heap.Ns C m)∧∀h',BO C s1.heap h'→∀cenv:Env,wpAny (model X.prog X.w) X.A (EL what (.ref a) cenv:Sem Value) (λ_ _=>False) X.xe {s1 with heap:=h'}) E1 s':=by
 have hB:∀b,B.get? b=none→(Bm B [C]).get? b=none:=λb q=>by
  cases z:(Bm B [C]).get? b with
  | none=>rfl
  | some o=>rw[Dr _ z] at q;cases q
 have toB:∀b o,b≠C→B.get? b=some o→(Bm B [C]).get? b=some o:=λb o hb q=>Ed _ q λz=>hb (by simpa using z);have hBC:(Bm B [C]).get? C=none:=Dd _ (by simp);have ofB:∀b o,(Bm B [C]).get? b=some o→B.get? b=some o:=λb o q=>Dr _ q;generalize Bm B [C]=B' at hB toB hBC ofB;obtain⟨f1,f2,f3,oe,vs,T,oT,ts,he,hcls,hd,h1,hnT,hTe,hT,hdT,h3⟩:=fl;have fl':DW B' (X.env::X.outer) a (.ref Cl) (.ref t) s'.heap:=by refine⟨λb o q=>f1 b o (ofB b o q),hB _ f2,?_,oe,vs,T,oT,ts,he,hcls,hd,h1,hB _ hnT,hTe,hT,hdT,h3⟩;rw[←O.st];exact Uc hB f3
 have hfr:X.A.frames=some (X.env::X.outer):=by rw[I'.ok.frames,O.st]
 have hCo:C ∉ HN (X.env::X.outer):=by rw[←O.st];exact hCf
 refine wpAny_looks_onW hfr O.fr fl' λh1 held up1=>⟨⟨m,up1.ns hCn⟩,λh2 sb cenv=>?_⟩;obtain⟨k1,k2,k3,k4⟩:=held;obtain⟨oC,esC,epC,hoC,hdC,rC⟩:=up1.ns hCn;obtain⟨oe1,vs1,T1,oT1,ts1,he1,hcls1,hd1,h11,hnT1,hTe1,hT1,hdT1,h31⟩:=k4;have aC:a≠C:=λz=>by rw[z,hoC] at he1;cases he1;rw[hdC] at hd1;cases hd1
 have tC:T1≠C:=λz=>by rw[z,hoC] at hT1;cases hT1;rw[hdC] at hdT1;cases hdT1
 have sm:∀b o,b≠C→h1.get? b=some o→h2.get? b=some o:=λb o hb q=>(sb.2 b hb).trans q;refine W3 (base:=B') (l:=X.env::X.outer) (cls:= .ref Cl) (a0:= .ref t) (fl:=rawInt X.env.locals) (λb o q=>sm b o (λz=>by rw[z,hBC] at q;cases q) (k1 b o q)) (TU sm hCo k3)
  ⟨oe1,vs1,T1,oT1,ts1,sm _ _ aC he1,hcls1,hd1,h11,hnT1,hTe1,sm _ _ tC hT1,hdT1,h31⟩ λh3 fl3 g1 g2 g3 g4=>O.xe _ _ ?_
 refine Xf hfr g2 O.fr g3 g1 k2 λh4 L4=>⟨a,Cl,H',rfl,?_,hE⟩;obtain⟨l1,⟨_,_,l2⟩,l3,l4⟩:=L4;have same:∀b o ob,B'.get? b=some ob→s'.heap.get? b=some o→h4.get? b=some o:=λb o ob e e1=>by have:=f1 b ob (ofB b ob e);rw[e1] at this;cases this;exact l1 b _ e
 have up:∀b o,b≠C→s'.heap.get? b=some o→(∀vs,o.data≠ .fields vs)→∃sl,h4.get? b=some {o with slots:=sl}:=λb o hb q nf=>by obtain⟨sl1,e1⟩:=up1 b o q nf;obtain⟨sl,e4⟩:=l4 b _ (g4 b _ (sm b _ hb e1) nf) nf;exact⟨sl,e4⟩
 have nex:∀b:Addr,b ∉ X.ex:=λb=>by rw[O.ex];simp
 have neC:∀b o,X.s₀.heap.get? b=some o→b≠C:=λb o q=>As (Av (Ao q) hC);have old':∀b o,X.s₀.heap.get? b=some o→b ∉ HN X.outer→∃o',B'.get? b=some o':=λb o q hb=>by obtain⟨o',e⟩:=old b o q hb;exact⟨o',toB b o' (neC b o q) e⟩
 have tr':∀b u,H' b=some u→∃o,B'.get? b=some o:=λb u q=>by obtain⟨o,e⟩:=tr b u q;exact⟨o,toB b o (λz=>by rw[z,hCH] at q;cases q) e⟩
 have hdB:∀b o,X.base.get? b=some o→b≠C:=λb o q=>neC b o (I'.ok.bs b o q).1;refine⟨⟨B',t,⟨l1,hB _ f2,l2,l3⟩,λb o q=>toB b o (hdB b o q) (bs b o q),tr',old'⟩,I'.os,I'.bare,⟨λb o e n hb _=>?_,λb o e n hb _=>?_,λb o e n _=>I'.base.free b o e n (nex b),λb o e _=>?_,I'.base.tups,I'.base.frzs,I'.base.tbls⟩,λb u e=>?_,free⟩
 · obtain⟨o',eB⟩:=old' b o e hb;exact same b o o' eB (I'.base.keep b o e n hb (nex b))
 · obtain⟨sl,e1⟩:=I'.base.slot b o e n hb (nex b);obtain⟨_,o2,e2,nf⟩:=I'.ok.funs.mem hb;rw[e] at e2;cases e2;obtain⟨sl2,e3⟩:=up b _ (neC b o e) e1 nf;exact⟨sl2,e3⟩
 · by_cases hb:b∈HN X.outer
   · obtain⟨_,o2,e2,nf⟩:=I'.ok.funs.mem hb;rw[e] at e2;cases e2;obtain⟨sl,e1⟩:=I'.base.slot b o e (I'.ok.frf b hb) hb (nex b);obtain⟨sl2,e3⟩:=up b _ (neC b o e) e1 nf;exact⟨_,e3⟩
   · obtain⟨oB,eB⟩:=old' b o e hb;exact⟨_,l1 b oB eB⟩
 · refine(I'.hok b u e).stay (λc v hc q=>?_) (λ_ q=>q) λ_ _ q=>q;rcases hc with rfl | hc
   · obtain⟨oB,eB⟩:=tr' c u e;exact same c v oB eB q
   · obtain⟨oB,eB⟩:=tr' c _ hc;exact same c v oB eB q
section
variable{R:Result→Shared→Prop}
theorem YB{elt target iter:Expr}{ifs:List Expr}{scope:Scope}{pos:Pos}{it acc:Value}{env:Env}(I:Nat→Shared→Prop)(Er:Value→Shared→Prop)
 (hEr:∀e s,Er e s→notedBy (model prog w) A env (λx s'=>R (.error x) s') e s)
 (turn:∀n s,I n s→wpAny (model prog w) A (pyNext it) (λr s₁=>match r with
  | none=>R (.ok .next) s₁
  | some v=>wpAny (model prog w) A (Dp target it v) (λ_ s₁'=>wpAny (model prog w) A (assign target env v) (λ_ s₂=>
   wpAny (model prog w) A (forIn ifs true λc r=>if r=true then do let ok ←isTrue c env (eval c env);pure (ForInStep.yield ok) else pure (ForInStep.yield r)) (λok s₃=>
    if ok=true then wpAny (model prog w) A (eval elt env) (λx s₄=> wpAny (model prog w) A (call (.builtin "list.append") [acc,x]) (λ_ s₅=>∃m,m<n∧I m s₅) Er s₄) Er s₃
    else ∃m,m<n∧I m s₃) Er s₂) Er s₁') Er s₁) Er s)
 (n:Nat) (h:I n s):
 codeAny (model prog w) A (.compLoop (.ListComp elt [⟨target,iter,ifs,0⟩] scope pos) 0 it acc env) R s:=by
 refine codeAny_loop rfl I (λn s hI=>?_) n h;show wpAny _ A ((compTurn (.ListComp elt [⟨target,iter,ifs,0⟩] scope pos) 0 it acc env).onRaise (λx=>do noteFrame x env;theTreesLotGoes x)) _ _ s
 refine wpAny_noted ?_;rw[compTurn_list];refine Aa (Dj (Aa (A9 (turn n s hI) (λr s₁ h₁=>?_) hEr)));cases r with
 | none=>exact Ac h₁
 | some v=>
  refine Aa (A9 h₁ (λ_ s₁' h₁'=>?_) hEr);refine Aa (A9 h₁' (λ_ s₂ h₂=>Aa (A9 h₂ (λok s₃ h₃=>?_) hEr)) hEr);cases ok with
  | false=>exact Ac ⟨rfl,h₃⟩
  | true=> exact Aa (Aa (A9 h₃ (λx s₄ h₄=>Aa (A9 h₄ (λ_ s₅ h₅=>Ac (Ac ⟨rfl,h₅⟩)) hEr)) hEr))
end
section
variable{E:XK}{tg iter elt:Expr}{ifs:List Expr}{wi:TI}{js:Jj}{g:TG}{tc:TT}{te:TE}{N':List Str}
abbrev LA(X:Cx)(C:Addr)(r:Result)(s':Shared):Prop:=∃x,r= .error x∧(∃m,s'.heap.Ns C m)∧∀h',BO C s'.heap h'→∀cenv:Env,wpAny (model X.prog X.w) X.A (EL "comprehension.variables-let-go" x cenv:Sem Value) (λ_ _=>False) X.xe {s' with heap:=h'}
theorem Xm{pins:List (Addr×Obj)}{σ:St}{H:Hp}{s:Shared}{E1:Value→Shared→Prop}{Q:VK}{J:It}{it:Addr}{fp:List Addr}{tn:Nat→Heap→Prop}{cl:List (Str×Addr)}
 (O:Outs X E) (hc:X.calm=true) (ok:CapOk X N' js scope)
 (h2:∀x c,cl.lookup x=some c→X.env.cells.lookup x=some c) (h3:∀p∈scope.names,p.2= .free→(cl.lookup p.1).isSome=true)
 (hg:∀cl C s₀ H₀ ex,PG (Je X N' scope cl C s₀ H₀ ex) tg g) (ht:∀cl C s₀ H₀ ex,Jg (Je X N' scope cl C s₀ H₀ ex) ifs tc) (he:∀cl C s₀ H₀ ex pins,PE ((Je X N' scope cl C s₀ H₀ ex).tryX (λ_ c H=>E c none H) pins) elt te)
 (I:Inv X pins σ H s) (T:Turn X.prog X.w X.K tg J fp it tn) (st:tn 0 s.heap) (hf:∀b∈fp,HG X pins H b)
 (hw:∀p,H p=none→JZ J p js g tc te σ H Q):
 wpAny (model X.prog X.w) X.A (newList []) (λacc s₃=>wpAny (model X.prog X.w) X.A (newFunctionEnv scope X.env.globals cl [] X.env.qual none .none (some X.env)) (λcenv s₄=>
  codeAny (model X.prog X.w) X.A (.compStart (.ListComp elt [⟨tg,iter,ifs,0⟩] scope pos) 0 (.ref it) acc {cenv with scope:=relabel scope X.env})
   (λr s'=>(r= .ok .next∧(∃m,s'.heap.Ns cenv.locals m)∧∃v H',RelV v acc∧Inv X pins σ H' s'∧HG X pins H' cenv.locals∧Q v H')∨LA X cenv.locals r s') s₄) E1 s₃) E1 s:=by
 have objs:=T.obj _ _ st;refine Ba ?_ (by show 0≤Ag;decide);obtain⟨W,⟨m0,w0⟩,turn⟩:=hw s.heap.objs.size (I.hok.fresh (Ae _));generalize hp:s.heap.objs.size=p at*;have kp:∀b u,s.heap.get? b=some u→(s.heap.push {cls:= .type "list",dict:=none,data:= .seq ([]:List Value).toArray}).get? b=some u:=λb u e=>Ad _ e;have I3:Inv X pins σ (GZ H p (.lst [])) {s with heap:=s.heap.push {cls:= .type "list",dict:=none,data:= .seq ([]:List Value).toArray}}:=by refine I.laid (t':=s.toks) kp (by rw[hp];exact Ae _) ⟨AX _,[],0,.nil,?_⟩;have:=Aq s.heap (o:={cls:= .type "list",dict:=none,data:= .seq ([]:List Value).toArray}) rfl;rw[hp] at this;exact this
 have fne:∀b∈fp,b≠p:=λb hb=>by obtain⟨o,e,_⟩:=objs b hb;have:=Ao e;rw[←hp];exact As this
 have hf3:∀b∈fp,HG X pins (GZ H p (.lst [])) b:=λb hb=>⟨by rw[Hk (fne b hb)];exact(hf b hb).1,(hf b hb).2⟩;have st3:tn 0 (s.heap.push {cls:= .type "list",dict:=none,data:= .seq ([]:List Value).toArray}):=T.keep _ _ _ st λb _ o e=>kp b o e;have lt3:∀b∈fp,b<(s.heap.push {cls:= .type "list",dict:=none,data:= .seq ([]:List Value).toArray}).objs.size:=λb hb=>by obtain⟨o,e,_⟩:=objs b hb;exact Ao (kp b o e)
 generalize hs3:({s with heap:=s.heap.push {cls:= .type "list",dict:=none,data:= .seq ([]:List Value).toArray}}:Shared)=s3 at*
 have eh:s.heap.push {cls:= .type "list",dict:=none,data:= .seq ([]:List Value).toArray}=s3.heap:=by rw[←hs3]
 rw[eh] at st3 lt3;refine Ue ok.cells λcl h₁ hns₁ k4 oc=>?_;have I4:=Tx (cl:=cl) (h₁:=h₁) (t':=s3.toks+([]:List (Str×Value)).length) ok I3 h2 h3 hf3 lt3 k4 hns₁ oc;have st4:tn 0 h₁:=T.keep _ _ _ st3 λb _ o e=>k4 b o e;generalize hX:Je X N' scope cl s3.heap.objs.size s3 (GZ H p (.lst [])) fp=X' at I4;have hg':PG X' tg g:=by rw[←hX];exact hg _ _ _ _ _
 have ht':Jg X' ifs tc:=by rw[←hX];exact ht _ _ _ _ _
 have he':∀pins,PE (X'.tryX (λ_ c H=>E c none H) pins) elt te:=by rw[←hX];exact λpins=>he _ _ _ _ _ pins
 have eP:X'.prog=X.prog:=by rw[←hX];rfl
 have ew:X'.w=X.w:=by rw[←hX];rfl
 have eK:X'.K=X.K:=by rw[←hX];rfl
 have ec:X'.calm=true:=by rw[←hX];exact hc
 have eA:X'.A=X.A:=by rw[←hX];rfl
 have ex:X'.xe=λ_ _=>False:=by rw[←hX];rfl
 have eE:X'.env=compEnvC scope cl s3.heap.objs.size X.env:=by rw[←hX];rfl
 have eEx:X'.ex=fp:=by rw[←hX];rfl
 have eN:X'.pn=[]:=by rw[←hX];rfl
 have stat:∀{H':Hp},(∀b∈fp,H' b=none)→∀b∈fp,HG X' [] H' b:=λ{H'}hn b hb=>by have okc:=I4.ok;refine⟨hn b hb,(okc.exf b (by rw[eEx];exact hb)).1,okc.exfs b (by rw[eEx];exact hb),.inl (by rw[eEx];exact hb),(okc.exf b (by rw[eEx];exact hb)).2,λq hq=>?_⟩;rw[eN] at hq;cases hq
 have toX:∀{σ':St}{H':Hp}{s':Shared}{pins':List (Addr×Obj)},Inv X' pins' σ' H' s'→Inv X pins σ H' s':=λ{σ' H' s' pins'}I6=>by have b6:=I6.base;have ho:=I6.os;have hk:=I6.hok;have hb:=I6.bare;subst hX;exact I3.call' (ch:=fp) ho b6 hk hb λb hb'=>⟨(hf b hb').2.2.2.1,(hf b hb').2.1,(hf b hb').2.2.2.2.1,(hf b hb').2.2.2.2.2⟩
 have raised:∀e s',(∃pins',XE X' (λ_ c H=>E c none H) pins' e s')→notedBy (model X.prog X.w) X.A (compEnvC scope cl s3.heap.objs.size X.env)
  (λx s'=>((.error x:Result)= .ok .next∧(∃m,s'.heap.Ns s3.heap.objs.size m)∧∃v H',RelV v (.ref p)∧Inv X pins σ H' s'∧HG X pins H' s3.heap.objs.size∧Q v H')∨LA X s3.heap.objs.size (.error x) s') e s':=by
  rintro e s' ⟨pins',a,Cl,H0,s0,σ',H',rfl,I0,fly,hE⟩;have eS:X'.stack=X.stack:=by rw[←hX];rfl
  have eB:X'.base=X.base:=by rw[←hX];rfl
  have I':=fly.inv I0;have ID:=toX I';have ID0:=toX I0;obtain⟨B,t,fb⟩:=fly.ex;rw[eS,eB] at fb;obtain⟨m,hm,_⟩:=I'.loc;rw[eE] at hm;have fr:=I'.free;rw[eE] at fr;have FC:HG X pins H' s3.heap.objs.size:=I3.fpOk (Ae _) fr;have nex:∀b:Addr,b ∉ X.ex:=λb=>by rw[O.ex];simp
  refine A9 (Xn (C:=s3.heap.objs.size) (what:="comprehension.variables-let-go") (E1:=λ_ _=>False) O ID fb.fl fb.bs fb.tr (λb o q hb=>?_) fly.free ?_ fr (λz=>?_) hm hE) (λ_ s1 h1=> .inr ⟨_,rfl,h1⟩) λ_ _ z=>z.elim
  · obtain⟨o1,e1⟩:=ID0.base.there b o q (nex b);refine fb.old b o1 e1 λhm'=>?_;rcases Au.mp (ID.stkSub b hm') with z | z
    · exact absurd z (As (Av (Ao q) ID.ok.above))
    · exact hb z
  · exact I3.sz
  · rcases Au.mp (ID.stkSub _ z) with z | z
    · exact FC.2.1 z
    · exact FC.2.2.1 z
 have loop:∀s₄:Shared,s₄={s3 with heap:=h₁,toks:=s3.toks+([]:List (Str×Value)).length}→
  codeAny (model X.prog X.w) X.A (.compLoop (.ListComp elt [⟨tg,iter,ifs,0⟩] scope pos) 0 (.ref it) (.ref p) (compEnvC scope cl s3.heap.objs.size X.env))
   (λr s'=>(r= .ok .next∧(∃m,s'.heap.Ns s3.heap.objs.size m)∧∃v H',RelV v (.ref p)∧Inv X pins σ H' s'∧HG X pins H' s3.heap.objs.size∧Q v H')∨LA X s3.heap.objs.size r s') s₄:=by
  rintro s₄ rfl;refine YB (λn s'=>∃i σ' ys H',Inv X' [] σ' H' s'∧tn i s'.heap∧(∀b∈fp,H' b=none)∧W i n σ' ys H') (λe s'=>∃pins',XE X' (λ_ c H=>E c none H) pins' e s') raised ?_ m0 ⟨0,_,[],_,I4,st4,λb hb=>(hf3 b hb).1,w0⟩;rintro n s5 ⟨i,σ5,ys,H5,I5,st5,fr5,w5⟩;obtain⟨hp5,tu⟩:=turn i n σ5 ys H5 w5;rcases tu with⟨stop,qn⟩ | ⟨go,hz,step⟩
  · have D:=T.done X' eP ew eK ec i [] s5 σ5 H5 (λ_ _=>False) I5 (stat fr5) st5 stop;rw[eA] at D;refine A9 D (λr s6 ⟨hr,I6⟩=>?_) λ_ _ z=>z.elim;subst hr;refine .inl ⟨rfl,?_,.ref p,H5,rfl,toX I6,?_,qn⟩
    · obtain⟨m,hm,_⟩:=I6.loc;rw[eE] at hm;exact⟨m,hm⟩
    · have fr:=I6.free;rw[eE] at fr;exact I3.fpOk (Ae _) fr
  · have D:=T.item X' eP ew eK ec i [] s5 σ5 H5 (λ_ _=>False) I5 (stat fr5) st5 go;rw[eA] at D;refine A9 D (λr s6 ⟨u,hr,h6⟩=>?_) λ_ _ z=>z.elim;subst hr;refine A9 h6 (λ_ s7 ⟨x,H7,I7,r7,y7,st7,fr7⟩=>?_) λ_ _ z=>z.elim;have I7':=I7.pinned (stat fr7) (T.obj _ _ st7);have G:=hg' _ s7 σ5 H7 x u _ I7' r7 (step x H7 y7);rw[eP,ew,eA,ex,eE] at G;refine A9 G (λ_ s8 ⟨σ8,H8,I8,q8⟩=>?_) λ_ _ z=>z.elim;have Tt:=ht' _ s8 σ8 H8 _ I8 q8;rw[eP,ew,eA,ex,eE] at Tt;refine A9 Tt (λb s9 ⟨H9,I9,q9⟩=>?_) λ_ _ z=>z.elim;have again:∀{s':Shared}{ys':List V}{H':Hp},Inv X' ([]++KG fp s7.heap) σ8 H' s'→(∃m',m'<n∧W (i+1) m' σ8 ys' H')→
     ∃m,m<n∧∃i σ' ys H',Inv X' [] σ' H' s'∧tn i s'.heap∧(∀b∈fp,H' b=none)∧W i m σ' ys H':=λ{s' ys' H'}I' ⟨m',hm,w'⟩=>by
     refine⟨m',hm,i+1,σ8,ys',H',I'.unpinned,T.keep _ _ _ st7 λb hb o e=>(I'.pin (b,o) (AB _ (AB _ (L_ hb e)))).1,λb hb=>?_,w'⟩;obtain⟨o,e,d⟩:=T.obj _ _ st7 b hb;exact(I'.pin (b,o) (AB _ (AB _ (L_ hb e)))).2.1
    cases b with
    | false=>exact again I9 q9
    | true=> have Ee:=he' ([]++KG fp s7.heap) [] s9 σ8 H9 _ (I9.tryX _) q9;have Ee:wpAny (model X'.prog X'.w) X'.A (eval elt X'.env) _ (XE X' (λ_ c H=>E c none H) ([]++KG fp s7.heap)) s9:=Ee;rw[eP,ew,eA,eE] at Ee;show wpAny _ _ _ _ _ _;refine A9 Ee (λxv s10 ⟨y,H10,I10,r10,hp10,q10⟩=>?_) λ_ _ z=>⟨_,z⟩;have I10:=I10.outTry;have Ap:=NJ (X:=X') _ s10 σ8 H10 (.ref p) [y] (.ref p) [xv] (λ_ H'=>H'=GZ H10 p (.lst (ys++[y]))) I10 rfl (.cons r10 .nil) ⟨p,ys,y,rfl,rfl,hp10,hz,rfl⟩;rw[eP,ew,eA,ex] at Ap;refine A9 Ap (λ_ s11 ⟨_,H11,I11,_,e11⟩=>?_) λ_ _ z=>z.elim;subst e11;exact again I11 q10
 exact Fh (loop _ rfl) (T.self _ 0 _ _ _ st4 (loop _ rfl))
theorem Ry(O:Outs X E)(hc:X.calm=true)(ok:CapOk X N' js scope)(hi:PI X tg iter wi)
 (hg:∀cl C s₀ H₀ ex,PG (Je X N' scope cl C s₀ H₀ ex) tg g) (ht:∀cl C s₀ H₀ ex,Jg (Je X N' scope cl C s₀ H₀ ex) ifs tc) (he:∀cl C s₀ H₀ ex pins,PE ((Je X N' scope cl C s₀ H₀ ex).tryX (λ_ c H=>E c none H) pins) elt te)
 (hs:∀x,D3 iter X.env x=pure x:=by intro _;rfl):PE X (.ListComp elt [⟨tg,iter,ifs,0⟩] scope pos) (PV wi js g tc te):=by
 intro pins s σ H Q I h;obtain⟨cl,c1,c2,c3⟩:=O8 (scope:=scope) I.ok.has ok.free;rw[eval_ListComp];refine Ds (use:=none) rfl hs c1 ok.kind ok.names (He (hi pins s σ H _ I h) λv s1 h1=>He h1 λitv s2 h2=>?_);obtain⟨it,fp,tn,J,H2,e,I2,T,st2,f2,hw⟩:=h2;subst e;refine A9 (Xm (iter:=iter) (pos:=pos) O hc ok c2 c3 hg ht he I2 T st2 f2 hw) (λacc s3 h3=>A9 h3 (λcenv s4 h4=>?_) λ_ _ z=>z) λ_ _ z=>z;refine Ch h4 λr s5 h5=>?_;rcases h5 with h5 | ⟨x,rfl,⟨m,hm⟩,hx⟩
 · obtain⟨rfl,⟨m,hm⟩,v,H5,rv,I5,f5,q5⟩:=h5;refine⟨m,hm,λh' sb=>?_⟩;obtain⟨f0,f1,_,f3,f4,f6⟩:=f5;exact⟨v,H5,I5.turned (t':=s5.toks) (λb o hb e=>(sb.2 b hb).trans e) f0 f1 f3 f4 f6,rv,q5⟩
 · exact⟨m,hm,λh' sb cenv' _=>hx h' sb cenv'⟩
end
def MF:R2:=λx y H Q=>∃a b xs,x= .ref a∧y= .ref b∧H a=some (.lst xs)∧H b=some (.lst [])∧Q (.bl (!xs.isEmpty)) H
theorem Oy(hr:JS X):HQ X (Bj .NotEq) MF:=by
 intro pins s σ H x y v u Q I rx ry h;obtain⟨a,b,xs,rfl,rfl,ha,hb,q⟩:=h;cases(show v=Value.ref a from rx);cases(show u=Value.ref b from ry);unfold JS at hr;obtain⟨_,its,n,rv,hg⟩:=(show ObjOk X.prog X.w H s.heap a (.lst xs) from I.hok a _ ha);obtain⟨_,its',n',rv',hg'⟩:=(show ObjOk X.prog X.w H s.heap b (.lst []) from I.hok b _ hb);cases rv';cases xs with
 | nil=> cases rv;exact Wz ⟨_,hg,rfl,_,rfl⟩ ⟨_,hg',rfl,_,rfl⟩ rfl (by omega) (λj k1 k2=>absurd k1 (by simp)) ⟨.bl false,H,I,rfl,q⟩
 | cons x xs=> have l:=rv.length;exact E4 (l:=a) (b:=b) ⟨_,hg,rfl,_,rfl⟩ ⟨_,hg',rfl,_,rfl⟩ (by simp;intro z;rw[z] at l;simp at l) (by omega) X.prog X.w _ _ ⟨.bl true,H,I,rfl,q⟩
theorem U1(c:Nat):(!(!(D0 ("abcdefghijklmnopqrstuvwxyz":Str) (⟨#[c]⟩:Str) 0 ("abcdefghijklmnopqrstuvwxyz":Str).length 1).isEmpty))=!IX c:=by
 rw[EV];congr 1;have e:("abcdefghijklmnopqrstuvwxyz":Str).cps.toList=(AY 26).map (· +97):=by decide+kernel
 rw[e];by_cases h:IX c=true
 · rw[h];have h1:97≤c:=of_decide_eq_true ((A2 _ _).mp h).1;have h2:c≤122:=of_decide_eq_true ((A2 _ _).mp h).2;exact decide_eq_true (A4.mpr ⟨c - 97,Cc.mpr (by omega),by omega⟩)
 · rw[EA.mpr h];refine decide_eq_false λz=>h ?_;obtain⟨k,hk,rfl⟩:=A4.mp z;have:=Cc.mp hk;unfold IX;rw[decide_eq_true (by omega),decide_eq_true (by omega)];rfl
theorem RepYs.getD{ds:List DY}(h:RepYs H ds xs)(hk:k<ds.length):∃d x,ds[k]?=some d∧xs[k]?=some x∧RepY H d x:=by have hl:=h.length;obtain⟨d,e,r⟩:=h.get (show xs[k]?=some (xs[k]'(by omega)) by simp);exact⟨d,_,e,by simp,r⟩
open PySem.Builtin PySem.Builtin.Str PySem.NumText
theorem NA:sg ("-":Str)=[45]:=by decide+kernel
theorem Mm:sg ("*":Str)=[42]:=by decide+kernel
theorem WY:sg (":":Str)=[58]:=by decide+kernel
theorem VT:sg ("..":Str)=[46,46]:=by decide+kernel
theorem Pf:sg (" ":Str)=[32]:=by decide+kernel
theorem Ki:sg ("0":Str)=[48]:=by decide+kernel
theorem TC:sg ("-0":Str)=[45,48]:=by decide+kernel
theorem OJ:(" ":Str)=⟨#[32]⟩:=Ka (by rw[Pf];rfl)
def Sm(n:Int):Prop:= -Ie<n∧n<Ie
def Mc(o:Option Int):Prop:=∀n,o=some n→Sm n
def Md(n:Int):Prop:= -(10*Ie)<n∧n<10*Ie
theorem Sm.md{n:Int}(h:Sm n):Md n:=by unfold Sm at h;unfold Md Ie at*;omega
instance (n:Int):Decidable (Sm n):=by unfold Sm;infer_instance
theorem SR{n:Int}(h:Md n):(IH n).length≤17:=by
 unfold Md Ie at h;rcases Int.lt_or_le n 0 with h1 | h1
 · obtain⟨m,rfl,hm⟩:∃m:Nat,n= -(m:Int)∧0<m:=⟨n.natAbs,by omega,by omega⟩;rw[SS m hm,Ax];have:=T7 (m:=m) (k:=16) (by decide) (by omega);omega
 · obtain⟨m,rfl⟩:=BH h1;have:=T7 (m:=m) (k:=16) (by decide) (by omega);omega
theorem Xd{o:Option Int}(h:Mc o):(Ij o).length≤17:=by
 cases o with
 | none=>decide
 | some n=>exact SR (h n rfl).md
theorem Ov{sep:List Nat}(hs:sep.length≤2):∀{ws:List (List Nat)},(∀w∈ws,w.length≤60)→(jn sep ws).length≤62*ws.length
 | [],_=>AX _
 | [w],h=>by have:=h w (by simp);show w.length≤62*1;omega
 | w::v::r,h=>by have ih:=Ov hs (ws:=v::r) λx hx=>h x (Az _ hx);have:=h w (by simp);show(w++sep++jn sep (v::r)).length≤62*(w::v::r).length;rw[A3,A3,Ax];omega
theorem V1{n:Int}(h:Md n):n.natAbs.log2<1920:=by
 unfold Md Ie at h;have h1:n.natAbs<2^60:=by omega
 by_cases h0:n.natAbs=0
 · rw[h0];decide
 · exact BA ((Nat.log2_lt h0).mpr h1) (by decide)
theorem Qx{c:Nat}(h:48≤c):(!decide ((⟨#[c]⟩:Str).cps.toList<("0":Str).cps.toList))=true:=by
 rw[show("0":Str).cps.toList=[48] from Ki];have:¬([c]:List Nat)<[48]:=by
  intro z;cases z with
  | rel z=>exact absurd z (by omega)
  | cons z=>cases z
 show(!decide (([c]:List Nat)<[48]))=true;rw[decide_eq_false this];rfl
theorem Qo{c:Nat}(h:c≤57):(!decide (("9":Str).cps.toList<(⟨#[c]⟩:Str).cps.toList))=true:=by
 rw[show("9":Str).cps.toList=[57] from by decide+kernel]
 have:¬([57]:List Nat)<[c]:=by
  intro z;cases z with
  | rel z=>exact absurd z (by omega)
  | cons z=>cases z
 show(!decide (([57]:List Nat)<[c]))=true;rw[decide_eq_false this];rfl
theorem SH{sep:Str}{ts:List Str}(hs:sep.length≤2)(h:∀t∈ts,t.length≤60)(hl:ts.length≤100):JoinOk sep ts=true:=by unfold JoinOk;rw[CB];refine EK (B:=60) (λy hy=>h y hy) ?_;have:ts.length*sep.length≤100*2:=Dy hl hs;omega
theorem UN{c A B:Prop}[Decidable c](hc:c)(h:A):if c then A else B:=by rw[if_pos hc];exact h
theorem Pq:(":":Str).length=1:=by decide+kernel
theorem SL:("..":Str).length=2:=by decide+kernel
theorem Pp:(" ":Str).length=1:=by decide+kernel
def MB(C:Addr):Sp:=λvs H Q E=>∃b:Bool,vs=[.bl b]∧(b=true→Q .non H)∧(b=false→E (.ref C) none H)
def Ul(w:List WP):Prop:=∀p∈w,Mc p.2.1∧Mc p.2.2
def Um(w:List PP):Prop:=∀p∈w,Md p.2
abbrev GP:=Str×List (Option Int)
def K6(p:GP):List Nat:=sg p.1++[58]++jn [46,46] (p.2.map Ij)
def GAt(H:Hp)(a:Addr)(w:List GP):Prop:=∃ps:List (Addr×GP),ps.map (·.2)=w∧H a=some (.tup (ps.map λp=>V.ref p.1))∧∀p∈ps,H p.1=some (.tup (V.str p.2.1::p.2.2.map eV))
def J2(w:List GP):List Nat:=if w=[] then [45] else jn [32] (w.map K6)
structure GOk(w:List GP):Prop where
 len:w.length≤100
 ok:∀p∈w,p.1.length≤8∧p.2.length≤2∧∀o∈p.2,(Ij o).length≤17∧∀n,o=some n→Md n
def Ts:Sp:=λvs H Q _=>∃(a:Addr)(w:List GP),vs=[.ref a]∧GAt H a w∧GOk w∧∀(x:Str)H',Same H H'→sg x=J2 w→Q (.str x) H'
def wG(p:WP):GP:=(p.1,[p.2.1,p.2.2])
def pG(p:PP):GP:=(p.1,[some p.2])
theorem RF{p:GP}(h8:p.1.length≤8)(h2:p.2.length≤2)(h:∀o∈p.2,(Ij o).length≤17∧∀n,o=some n→Md n):(K6 p).length≤60:=by
 unfold K6;rw[IG] at h8;obtain⟨f,es⟩:=p;have hh:(jn [46,46] (es.map Ij)).length≤36:=by
  match es,h2,h with
  | [],_,_=>exact AX _
  | [o],_,h=>have:=(h o (by simp)).1;show(Ij o).length≤36;omega
  | [o,o'],_,h=> have h1:=(h o (by simp)).1;have h2:=(h o' (by simp)).1;show(Ij o++[46,46]++Ij o').length≤36;simp only[A3,Ax,DT];omega
  | _::_::_::_,h2,_=>simp at h2
 simp only[A3,Ax,DT];dsimp only at h8 ⊢;omega
theorem WishAt.gen{w:List WP}(h:WishAt H a w):GAt H a (w.map wG):=by obtain⟨ps,rfl,h1,h2⟩:=h;refine⟨ps.map λp=>(p.1,wG p.2),by simp[D8],by rw[h1];simp[D8],λp hp=>?_⟩;obtain⟨q,hq,rfl⟩:=A4.mp hp;exact h2 q hq
theorem PieceAt.gen{w:List PP}(h:PieceAt H a w):GAt H a (w.map pG):=by obtain⟨ps,rfl,h1,h2⟩:=h;refine⟨ps.map λp=>(p.1,pG p.2),by simp[D8],by rw[h1];simp[D8],λp hp=>?_⟩;obtain⟨q,hq,rfl⟩:=A4.mp hp;exact h2 q hq
theorem WOk.gen{w:List WP}(h:WOk w)(hs:Ul w):GOk (w.map wG):=by
 refine⟨by rw[Ab];exact h.len,λp hp=>?_⟩;obtain⟨q,hq,rfl⟩:=A4.mp hp;refine⟨(h.ok q hq).1.eight,by show 2≤2;decide,λo ho=>?_⟩;have h1:=hs q hq;have:Mc o:=by
  rcases Au.mp ho with rfl | ho
  · exact h1.1
  · rw[Ai.mp ho];exact h1.2
 exact⟨Xd this,λn e=>(this n e).md⟩
theorem POk.gen{w:List PP}(h:POk w)(hs:Um w):GOk (w.map pG):=by refine⟨by rw[Ab];exact h.len,λp hp=>?_⟩;obtain⟨q,hq,rfl⟩:=A4.mp hp;refine⟨(h.ok q hq).eight,by show 1≤2;decide,λo ho=>?_⟩;rw[Ai.mp ho];exact⟨SR (hs q hq),λn e=>by cases e;exact hs q hq⟩
theorem U5(v:V)(xs:List V):¬(HT.sIx (v::xs).length 0 (some 1)=0∧HT.sIx (v::xs).length (v::xs).length none=(v::xs).length):=by rw[show HT.sIx (v::xs).length 0 (some 1)=min 1 (v::xs).length from HT.sIx_nat _ _ 1,Ax];omega
theorem X2(v:V)(xs:List V):Ip (v::xs) (some 1) none=xs:=by unfold Ip;rw[show HT.sIx (v::xs).length 0 (some 1)=min 1 (v::xs).length from HT.sIx_nat _ _ 1,show HT.sIx (v::xs).length (v::xs).length none=(v::xs).length from rfl,Ax,show min 1 (xs.length+1)=1 by omega];show xs.take _=xs;rw[AJ (by omega)]
theorem GAt.same{H':Hp}{w:List GP}(h:GAt H a w)(s:Same H H'):GAt H' a w:=by obtain⟨ps,e,h1,h2⟩:=h;exact⟨ps,e,s _ _ h1,λp hp=>s _ _ (h2 p hp)⟩
def eY:Option Int→DY
 | none=> .non
 | some n=> .int n
def Of(p:GP):DY:= .tup (.str p.1::p.2.map eY)
def JA(w:List GP):DY:= .tup (w.map Of)
theorem Sk:∀es:List (Option Int),RepYs H (es.map eY) (es.map eV)
 | []=>by rw[CO,RepYs];rfl
 | e::es=>by
  rw[A7,RepYs];refine⟨_,_,rfl,?_,Sk es⟩;cases e with
  | none=>show RepY H .non _;rw[RepY];rfl
  | some n=>show RepY H (.int n) _;rw[RepY];rfl
theorem Q1(w:List GP):HW (JA w)≤2:=by
 unfold JA;rw[HW];have:Jx (w.map Of)≤1:=NR λd hd=>by
  obtain⟨p,_,rfl⟩:=A4.mp hd;unfold Of;rw[HW];have:Jx (.str p.1::p.2.map eY)≤0:=NR λd hd=>by
   rcases Au.mp hd with rfl | hd
   · exact Ae _
   · obtain⟨o,_,rfl⟩:=A4.mp hd;cases o<;>exact Ae _
  omega
 omega
theorem W5{lo hi:Option Int}(h:Good lo hi):Mc lo∧Mc hi:=⟨h.lo,h.hi⟩
section
variable{Q:VK}{u u2:Addr}{lo hi lo2 hi2:Option Int}
end
open PySem.Builtin PySem.Builtin.Str PySem.NumText
theorem Po(x:Str)(i j:Nat):∀c∈sg (strSub x i j),c∈sg x:=λc hc=>by have h:c∈(strSub x i j).cps.toList:=hc;rw[StrLaws.strSub_toList] at h;exact Ea (Eb h)
theorem YU(y z:Str):∀c∈sg (BK y z).2.2,c∈sg y:=by
 unfold BK;cases lastOccurrence y z 0 y.length with
 | none=>exact λc h=>h
 | some i=>exact Po y (i+z.length) y.length
theorem T8(y z:Str):(∀c∈sg (Ah y z).1,c∈sg y)∧∀c∈sg (Ah y z).2.2,c∈sg y:=by
 unfold Ah;cases occurrences y z 0 y.length 1 with
 | nil=>exact⟨λc h=>h,λc h=>by cases h⟩
 | cons i r=>exact⟨Po y 0 i,Po y (i+z.length) y.length⟩
theorem WX(y z:Str):(BK y z).2.2.length≤y.length:=by
 unfold BK;cases lastOccurrence y z 0 y.length with
 | none=>exact Ae _
 | some i=>exact strSub_length_le ..
theorem LV(y z:Str):(Ah y z).1.length≤y.length∧(Ah y z).2.2.length≤y.length:=by
 unfold Ah;cases occurrences y z 0 y.length 1 with
 | nil=>exact⟨Ae _,AX _⟩
 | cons i r=>exact⟨strSub_length_le ..,strSub_length_le ..⟩
def VE:V→List V→Hp→VK→Prop:=λx vs H Q=>∃(y z:Str),x= .str y∧vs=[.str z]∧(z.length==0)=false∧y.length≤100000∧∀p(a b c:Str),c.length≤y.length→(∀e∈sg c,e∈sg y)→H p=none→Q (.ref p) (GZ H p (.tup [.str a,.str b,.str c]))
theorem Zg:KT X "str.rpartition" VE:=by
 intro pins s σ H x vs v us Q I rx rv h;obtain⟨y,z,rfl,rfl,hz,hl,q⟩:=h;obtain⟨t,rfl⟩:=(show ∃t,v=Value.str y t from rx);obtain⟨u0,rfl,ru⟩:=rv.one;obtain⟨u,rfl⟩:=(show ∃t,u0=Value.str z t from ru);have hsz:(100004:Nat)≤Ag:=by decide
 refine call_meets F.slot_str_rpartition (typeIs_str _ _ _) F.entry_str_rpartition (F.args_str_rpartition_2 _ _) (meets_str_rpartition y z t u hz (by omega)) ?_;have fin:∀(a b c:Tok)(k:Nat),EP X pins σ Q (.ref s.heap.objs.size) {s with heap:=s.heap.push {cls:= .type "tuple",data:= .seq [.str (BK y z).1 a,.str (BK y z).2.1 b,.str (BK y z).2.2 c].toArray},toks:=k}:=λa b c k=>by refine⟨.ref s.heap.objs.size,_,I.laid (o:= .tup [.str (BK y z).1,.str (BK y z).2.1,.str (BK y z).2.2]) (λ_ _ e=>Ad _ e) (Ae _) ?_,rfl,q _ _ _ _ (WX y z) (YU y z) I.fresh⟩;exact⟨(by show 3≤Ag;decide),_,.cons ⟨a,rfl⟩ (.cons ⟨b,rfl⟩ (.cons ⟨c,rfl⟩ .nil)),_,Aq _ rfl,rfl,rfl,0,rfl⟩
 unfold BK at fin
 revert fin
 cases lastOccurrence y z 0 y.length with
 | none=>intro fin;exact fin _ _ _ _
 | some i=>intro fin;exact fin _ _ _ _
def UY:R2:=λx y H Q=>∃(z:Str)(k:Nat),x= .str z∧y= .int (k:Int)∧k≤100∧z.length≤10000∧∀r:Str,r.length≤z.length*k→(∀c∈sg r,c∈sg z)→Q (.str r) H
theorem Tp(a:Array Nat):∀(k:Nat)(b:Array Nat)(c:Nat),c∈((Ce k a).foldl (· ++ ·) b).toList→c∈b.toList∨c∈a.toList
 | 0,b,c,h=> .inl h
 | k+1,b,c,h=>by
  rw[FE,List.foldl_cons] at h;rcases Tp a k _ c h with h | h
  · rw[FF] at h;exact(A6.mp h).imp id id
  · exact .inr h
theorem R7:HQ X (binaryOp .Mult) UY:=by
 intro pins s σ H x y v u Q I rx ry h;obtain⟨z,k,rfl,rfl,k2,hz,q⟩:=h;obtain⟨t,rfl⟩:=(show ∃t,v=Value.str z t from rx);obtain⟨t',rfl⟩:=(show ∃t,u=Value.int k t from ry);have hm:z.length*k≤1000000:=A8 (Dy hz k2) (by decide);have hsz:(1000000:Nat)≤Ag:=by decide
 refine PySem.P.mul_str ?_ (λ_ _=>?_) (λ_ _=>?_) ?_
 · rw[decide_eq_false (by omega),decide_eq_false (by omega)];rfl
 · have:(10000:Int)≤(2^63 - 1) / (k:Int):=by
    apply(Int.le_ediv_iff_mul_le (by omega)).mpr;omega
   omega
 · rw[AI];exact decide_eq_false (Nat.not_lt.mpr (show z.length*k≤Ag by omega))
 · split
   · exact⟨by decide,⟨.str _,H,I.tok _,⟨_,rfl⟩,q _ (AX _) λc hc=>by cases hc⟩⟩
   · split
     · exact⟨.str z,H,I,⟨t,rfl⟩,q z (Nat.le_mul_of_pos_right _ (by omega)) λc hc=>hc⟩
     · have hl:(⟨(Ce (k:Int).toNat z.cps).foldl (· ++ ·) #[]⟩:Str).length=z.length*k:=by
        show((Ce (k:Int).toNat z.cps).foldl (· ++ ·) #[]).size=_;rw[WW,AI,Nat.mul_comm];show 0+_=_;rw[Nat.zero_add];rfl
       exact⟨by rw[hl];omega,⟨.str _,H,I.tok _,⟨_,rfl⟩,q _ (by rw[hl];exact Ae _) λc hc=>(Tp _ _ _ c hc).elim (λz=>by cases z) id⟩⟩
def Ww:V→Option Int→Option Int→Hp→VK→Prop:=λx lo hi H Q=>∃y:Str,x= .str y∧y.length≤100000∧∀z:Str,z.length≤y.length→(∀c∈sg z,c∈sg y)→Q (.str z) H
theorem RT:L6 X Ww:=by
 intro pins s σ H x v vl vu lo hi sl Q I rx hs pl pu h;obtain⟨y,rfl,hl,q⟩:=h;obtain⟨t,rfl⟩:=(show ∃t,v=Value.str y t from rx);obtain⟨l,el,e1⟩:∃l:Option (Int×Tok),vl=partValue l∧l.map (·.1)=lo:=by
  cases pl with
  | none=>exact⟨none,rfl,rfl⟩
  | int i t=>exact⟨some (i,t),rfl,rfl⟩
 obtain⟨u,eu,e2⟩:∃l:Option (Int×Tok),vu=partValue l∧l.map (·.1)=hi:=by
  cases pu with
  | none=>exact⟨none,rfl,rfl⟩
  | int i t=>exact⟨some (i,t),rfl,rfl⟩
 have hS:s.heap.IsSlice sl l u none:=by obtain⟨o,h1,h2,h3⟩:=hs;exact⟨o,h1,h2,by rw[h3,el,eu];rfl⟩
 have pk:slicePicked y l u none=AG lo hi 1 y.length:=by unfold slicePicked;rw[e1,e2];rfl
 have p1:=(Yk lo hi y.length).1;have hsz:(100000:Nat)≤Ag:=by decide
 refine⟨"str",_,C3.lookup,typeIs_str s y t,?_⟩;refine getItem_meets (typeIs_str s y t) (by decide) C3 Ei (D_ _ _) (meets_str_getitem_slice y t sl l u none rfl) ⟨hS,?_⟩;unfold sliceMade;rw[pk]
 split
 · exact⟨.str y,H,I,⟨t,rfl⟩,q y (Ae _) λc hc=>hc⟩
 · have hz:(⟨((AG lo hi 1 y.length).filterMap (y.cps[·]?)).toArray⟩:Str).length≤(AG lo hi 1 y.length).length:=by
    show(Db _ _).toArray.size≤_;rw[Al];exact List.length_filterMap_le _ _
   refine⟨by omega,⟨.str _,H,I.tok _,⟨_,rfl⟩,q _ (by omega) λc hc=>?_⟩⟩;have hc:c∈(Db (y.cps[·]?) (AG lo hi 1 y.length)).toArray.toList:=hc;rw[CQ] at hc;obtain⟨i,_,hi⟩:=Cd.mp hc;have:y.cps.toList[i]?=some c:=by rw[←hi];simp
   exact AA this
theorem W8(n:Nat):AG none (some 1) 1 n=AY (min 1 n):=by
 unfold AG sliceRange;simp only[show(1:Int)>0 by decide,if_true];have e1:max 0 (min (if(1:Int)<0 then 1+(n:Int) else 1) (n:Int))=((min 1 n:Nat):Int):=by rw[if_neg (by decide)];omega
 rw[e1];have e2:(if(0:Int)<((min 1 n:Nat):Int) then(((min 1 n:Nat):Int) - 0+1 - 1) / 1 else 0).toNat=min 1 n:=by split<;>omega
 rw[e2]
 conv=>rhs;rw[←List.map_id (AY (min 1 n))]
 refine FG λk _=>?_;show(0+1*(k:Int)).toNat=k;omega
def Wv:V→Option Int→Option Int→Hp→VK→Prop:=λx lo hi H Q=>∃y:Str,x= .str y∧lo=none∧hi=some 1∧y.length≤100000∧∀z:Str,sg z=(sg y).take 1→Q (.str z) H
theorem Xa:L6 X Wv:=by
 intro pins s σ H x v vl vu lo hi sl Q I rx hs pl pu h;obtain⟨y,rfl,rfl,rfl,hl,q⟩:=h;obtain⟨t,rfl⟩:=(show ∃t,v=Value.str y t from rx);obtain⟨l,el,e1⟩:∃l:Option (Int×Tok),vl=partValue l∧l.map (·.1)=none:=by
  cases pl with
  | none=>exact⟨none,rfl,rfl⟩
 obtain⟨u,eu,e2⟩:∃l:Option (Int×Tok),vu=partValue l∧l.map (·.1)=some 1:=by
  cases pu with
  | int i t=>exact⟨some (1,t),rfl,rfl⟩
 have hS:s.heap.IsSlice sl l u none:=by obtain⟨o,h1,h2,h3⟩:=hs;exact⟨o,h1,h2,by rw[h3,el,eu];rfl⟩
 have pk:slicePicked y l u none=AY (min 1 y.length):=by unfold slicePicked;rw[e1,e2];exact W8 _
 have hsz:(100000:Nat)≤Ag:=by decide
 refine⟨"str",_,C3.lookup,typeIs_str s y t,?_⟩;refine getItem_meets (typeIs_str s y t) (by decide) C3 Ei (D_ _ _) (meets_str_getitem_slice y t sl l u none rfl) ⟨hS,?_⟩;unfold sliceMade;rw[pk];have hl2:y.length=(sg y).length:=IG y;have key:(AY (min 1 y.length)).filterMap (y.cps[·]?)=(sg y).take 1:=by
  rw[hl2];unfold sg;cases e:y.cps.toList with
  | nil=>rfl
  | cons c r=>
   have e0:y.cps[0]?=some c:=by
    have h6:y.cps[0]?=y.cps.toList[0]?:=by simp
    rw[h6,e];rfl
   have e3:min 1 (c::r).length=1:=by rw[Ax];omega
   rw[e3];show([0]:List Nat).filterMap (y.cps[·]?)=[c];rw[Cm,e0];rfl
 split
 · rename_i hc;have hc:min 1 y.length=y.length:=by simpa using hc
   refine⟨.str y,H,I,⟨t,rfl⟩,q y ?_⟩;rw[AJ (by omega)]
 · have hz:(⟨((AY (min 1 y.length)).filterMap (y.cps[·]?)).toArray⟩:Str).length≤Ag:=by
    rw[IG];show(Db _ _).toArray.toList.length≤_;rw[CQ,key,AE];omega
   refine⟨hz,⟨.str _,H,I.tok _,⟨_,rfl⟩,q _ ?_⟩⟩;show(Db _ _).toArray.toList=_;rw[CQ,key]
theorem Xj{sep:Str}{ts:List Str}(hs:sep.length≤2)(h:∀t∈ts,t.length≤3000)(hl:ts.length≤3000):JoinOk sep ts=true:=by unfold JoinOk;rw[CB];refine EK (B:=3000) (λy hy=>h y hy) ?_;have h1:ts.length*sep.length≤3000*2:=Dy hl hs;have h2:ts.length*3000≤3000*3000:=Dy hl (Ae _);omega
theorem N8{sep:List Nat}{c:Nat}:∀{ws:List (List Nat)},c∈jn sep ws→c∈sep∨∃w∈ws,c∈w
 | [w],h=> .inr ⟨w,by simp,h⟩
 | w::v::r,h=>by
  rcases A6.mp (show c∈(w++sep)++jn sep (v::r) from h) with h | h
  · rcases A6.mp h with h | h
    · exact .inr ⟨w,by simp,h⟩
    · exact .inl h
  · rcases N8 h with h | ⟨x,hx,h⟩
    · exact .inl h
    · exact .inr ⟨x,Az _ hx,h⟩
theorem QW{sep:List Nat}{c:Nat}{w:List Nat}(hc:c∈w):∀{ws:List (List Nat)},w∈ws→c∈jn sep ws
 | [v],h=>by rw[←Ai.mp h];exact hc
 | u::v::r,h=>by
  show c∈(u++sep)++jn sep (v::r);rcases Au.mp h with rfl | h
  · exact Cg _ (Cg _ hc)
  · exact AB _ (QW hc h)
theorem O1(sep:List Nat):∀ws:List (List Nat),(jn sep ws).length+sep.length*(if ws=[] then 0 else 1)=(ws.map BC).sum+sep.length*ws.length
 | []=>by simp[jn]
 | [w]=>by simp[jn]
 | w::v::r=>by have ih:=O1 sep (v::r);rw[if_neg (by simp)] at ih ⊢;show(w++sep++jn sep (v::r)).length+_=_;rw[A3,A3,A7,List.sum_cons,Ax (a:=w),Nat.mul_add];omega
theorem U6(c:Nat):(!(!(occurrences ("0123456789":Str) (⟨#[c]⟩:Str) 0 ("0123456789":Str).length 1).isEmpty))=!(decide (48≤c) && decide (c≤57)):=by
 rw[EV];congr 1;have e:("0123456789":Str).cps.toList=(AY 10).map (· +48):=by decide+kernel
 rw[e];by_cases h:(decide (48≤c) && decide (c≤57))=true
 · rw[h];have h1:48≤c:=of_decide_eq_true ((A2 _ _).mp h).1;have h2:c≤57:=of_decide_eq_true ((A2 _ _).mp h).2;exact decide_eq_true (A4.mpr ⟨c - 48,Cc.mpr (by omega),by omega⟩)
 · rw[EA.mpr h];refine decide_eq_false λz=>h ?_;obtain⟨k,hk,rfl⟩:=A4.mp z;have:=Cc.mp hk;rw[decide_eq_true (by omega),decide_eq_true (by omega)];rfl
theorem Tu(x:Str):((AR x (⟨#[32]⟩:Str)).map λw=>w.length).sum+(AR x (⟨#[32]⟩:Str)).length=x.length+1:=by have h:=Nw ⟨#[32]⟩ (AR x ⟨#[32]⟩);rw[StrLaws.join_split] at h;have h2:=O1 (sg ⟨#[32]⟩) ((AR x ⟨#[32]⟩).map sg);rw[←h,if_neg (by simpa using OX x _),C2,Ab,←IG] at h2;have e1:(sg (⟨#[32]⟩:Str)).length=1:=rfl;have e2:(BC∘sg)=λw:Str=>w.length:=funext λw=>(IG w).symm;rw[e1,e2] at h2;omega
theorem Y7{w:Str}(h:w∈AR x (⟨#[32]⟩:Str)):∀c∈sg w,c∈sg x:=λc hc=>by have e:=Nw ⟨#[32]⟩ (AR x ⟨#[32]⟩);rw[StrLaws.join_split] at e;rw[e];exact QW hc (BM h)
def Lw(x:Str):Prop:=∀c∈sg x,c<1000
theorem Lw.sub{y:Str}(h:Lw y)(s:∀c∈sg x,c∈sg y):Lw x:=λc hc=>h c (s c hc)
theorem Lw.app{y:Str}(h:Lw x)(h':Lw y):Lw (x++y):=λc hc=>by
 rw[Mi] at hc;rcases A6.mp hc with z | z
 · exact h c z
 · exact h' c z
theorem Lw.join{ts:List Str}(h:∀t∈ts,Lw t):Lw (Di (" ":Str) ts):=λc hc=>by
 rw[NI] at hc;rcases N8 hc with z | ⟨w,hw,z⟩
 · have:sg (" ":Str)=[32]:=by decide+kernel
   rw[this] at z;rw[Ai.mp z];decide
 · obtain⟨t,ht,rfl⟩:=A4.mp hw;exact h t ht c z
def hs(S:Addr→Bool)(H:Hp):Hp:=λa=>if S a=true then none else H a
theorem YY{α:Type}(f:α→Bool)(g:α→Str)(l:List α):((l.filter λc=>!f c).map g).isEmpty=l.all f:=by
 induction l with
 | nil=>rfl
 | cons x l ih=>
  rw[Cq,C9];cases h:f x with
  | true=>rw[if_neg (by simp)];simpa using ih
  | false=>rw[if_pos (by simp)];rfl
open PySem.Builtin PySem.Builtin.Str PySem.NumText
def HB(c:Nat):Bool:=decide (48≤c) && decide (c≤57)
def LC(l:List Nat):Prop:=1≤l.length∧l.length≤15∧l.all HB=true∧(l=[48]∨l.head?≠some 48)
instance (l:List Nat):Decidable (LC l):=by unfold LC;infer_instance
def HV(l:List Nat):Option Nat:=if LC l then some (digitsVal l) else none
def Ht(l:List Nat):Option Int:=if l.head?=some 45 then(if l=[45,48] then none else(HV l.tail).map λm=> -(m:Int)) else(HV l).map λm=>(m:Int)
def HJ(l:List Nat):Option (Option Int):=if l=[42] then some none else(Ht l).map some
theorem OH{l:List Nat}(h:l.all HB=true):∀c∈l,48≤c∧c≤57:=λc hc=>by have:=Cs.mp h c hc;unfold HB at this;rw[A2] at this;exact⟨of_decide_eq_true this.1,of_decide_eq_true this.2⟩
def Hv(l:List Nat):List Nat:=if l.head?=some 45 then l.tail else l
theorem ON{l:List Nat}(h:Hv l=[]∨15<(Hv l).length∨(Hv l).all HB=false):Ht l=none:=by
 have nc:HV (Hv l)=none:=by
  unfold HV;rw[if_neg];rintro⟨a,b,c,_⟩;rcases h with h | h | h
  · rw[h] at a;exact absurd a (by decide)
  · omega
  · rw[h] at c;cases c
 unfold Ht;unfold Hv at nc
 split
 · rename_i e;rw[if_pos e] at nc
   split
   · rfl
   · rw[nc];rfl
 · rename_i e;rw[if_neg e] at nc;rw[nc];rfl
theorem WE{l:List Nat}(h:(Hv l).head?=some 48)(h0:l≠[48]):Ht l=none:=by
 unfold Ht;unfold Hv at h
 split
 · rename_i e;rw[if_pos e] at h
   split
   · rfl
   · rename_i e2;have:HV l.tail=none:=by
      unfold HV;rw[if_neg];rintro⟨_,_,_,d⟩;rcases d with d | d
      · apply e2;cases l with
        | nil=>cases e
        | cons c r=>
         have:c=45:=by simpa using e
         have d:r=[48]:=d;rw[this,d]
      · exact d h
     rw[this];rfl
 · rename_i e;rw[if_neg e] at h;have:HV l=none:=by
    unfold HV;rw[if_neg];rintro⟨_,_,_,d⟩;rcases d with d | d
    · exact h0 d
    · exact d h
   rw[this];rfl
theorem WD{l:List Nat}(h1:Hv l≠[])(h2:(Hv l).length≤15)(h3:(Hv l).all HB=true)(h4:(Hv l).head?≠some 48∨l=[48]):Ht l=some (if l.head?=some 45 then -((digitsVal (Hv l):Nat):Int) else((digitsVal (Hv l):Nat):Int)):=by
 have len:1≤(Hv l).length:=Ej.mpr h1;have nc:HV (Hv l)=some (digitsVal (Hv l)):=by
  unfold HV;rw[if_pos];refine⟨len,h2,h3,?_⟩;rcases h4 with h | h
  · exact .inr h
  · exact .inl (by rw[h];rfl)
 unfold Ht
 split
 · rename_i e;have ef:Hv l=l.tail:=if_pos e;rw[ef] at nc ⊢;rw[if_neg,nc]
   · rfl
   · intro z;rw[ef,z] at h4;rcases h4 with h | h
     · exact h rfl
     · exact absurd h (by decide)
 · rename_i e;have ef:Hv l=l:=if_neg e;rw[ef] at nc ⊢;rw[nc];rfl
theorem We(h1:Hv (sg x)≠[])(h2:(Hv (sg x)).length≤15)(h3:(Hv (sg x)).all HB=true):Fz x=some (if(sg x).head?=some 45 then -((digitsVal (Hv (sg x)):Nat):Int) else((digitsVal (Hv (sg x)):Nat):Int))∧x.length≤640:=by
 unfold Hv at h1 h2 h3 ⊢;have hl:=IG x
 split
 · rename_i e;rw[if_pos e] at h1 h2 h3;cases es:sg x with
   | nil=>rw[es] at e;cases e
   | cons c r=>
    rw[es] at e h1 h2 h3;have hc:c=45:=by have e:some c=some 45:=e;exact Am e
    subst hc;have h1:r≠[]:=h1;have h2:r.length≤15:=h2;have h3:r.all HB=true:=h3;have hlen:x.length=r.length+1:=by rw[hl,es,Ax]
    exact⟨intText_neg (x:=x) es (OH h3) h1 (by omega),by omega⟩
 · rename_i e;rw[if_neg e] at h1 h2 h3;exact⟨intText_digits (x:=x) (OH h3) h1 (by omega),by omega⟩
theorem Ti{y:Str}(hy:y≠DK)(h:(Ah x y).2.1=DK):(Ah x y).2.2=DK:=by
 unfold Ah at*;cases e:occurrences x y 0 x.length 1 with
 | nil=>rfl
 | cons i r=>rw[e] at h;exact absurd h hy
def IP(x:Str):Str:=(Ah x (":":Str)).1
def HU(x:Str):Str:=(Ah x (":":Str)).2.2
def IN(x:Str):Str:=(Ah (HU x) ("..":Str)).1
def IY(x:Str):Str:=(Ah (HU x) ("..":Str)).2.2
def Kz(x:Str):Option GP:=match HJ (sg (IN x)),HJ (sg (IY x)) with
 | some lo,some hi=>some (IP x,[lo,hi])
 | _,_=>none
def Lu(x:Str):Option GP:=(Ht (sg (HU x))).map λn=>(IP x,[some n])
def II(k:Int)(x:Str):Option GP:=if k=3 then Kz x else Lu x
theorem Qv(x:Str):II 3 x=Kz x:=if_pos rfl
theorem Qw(x:Str):II 2 x=Lu x:=if_neg (by decide)
theorem QX(x:Str):(IP x).length≤x.length:=(LV x _).1
theorem LI(x:Str):(HU x).length≤x.length:=(LV x _).2
theorem Rp(x:Str):(IN x).length≤x.length:=A8 (LV (HU x) _).1 (LI x)
theorem QY(x:Str):(IY x).length≤x.length:=A8 (LV (HU x) _).2 (LI x)
theorem RO{lo hi:Option Int}(h1:HJ (sg (IN x))=some lo)(h2:HJ (sg (IY x))=some hi):Kz x=some (IP x,[lo,hi]):=by unfold Kz;rw[h1,h2]
theorem Rn(h1:HJ (sg (IN x))=none):Kz x=none:=by unfold Kz;rw[h1]
theorem Ro(h1:HJ (sg (IY x))=none):Kz x=none:=by unfold Kz;rw[h1];cases HJ (sg (IN x))<;>rfl
theorem UD{k:Int}{p:GP}(h:II k x=some p):p.1.length≤x.length∧p.2.length≤2:=by
 unfold II at h
 split at h
 · unfold Kz at h
   split at h
   · cases h;exact⟨QX x,by show 2≤2;decide⟩
   · cases h
 · unfold Lu at h;cases e:Ht (sg (HU x)) with
   | none=>rw[e] at h;cases h
   | some n=>rw[e] at h;cases h;exact⟨QX x,by show 1≤2;decide⟩
def IF(k:Int):List Str→Option (List GP)
 | []=>some []
 | x::r=>match II k x,IF k r with
  | some p,some ps=>some (p::ps)
  | _,_=>none
theorem Pk{k:Int}{p:GP}(hx:II k x=some p):∀{ws:List Str}{ps:List GP},IF k ws=some ps→IF k (ws++[x])=some (ps++[p])
 | [],ps,h=>by cases h;show IF k [x]=some [p];unfold IF;rw[hx];rfl
 | y::ws,ps,h=>by
  unfold IF at h;cases e1:II k y with
  | none=>rw[e1] at h;cases h
  | some q=>
   cases e2:IF k ws with
   | none=>rw[e1,e2] at h;cases h
   | some qs=> rw[e1,e2] at h;cases h;show IF k (y::(ws++[x]))=_;unfold IF;rw[e1,Pk hx e2];rfl
theorem Tj{k:Int}(hx:II k x=none):∀{ws:List Str},x∈ws→IF k ws=none
 | y::ws,h=>by
  unfold IF;rcases Au.mp h with rfl | h
  · rw[hx]
  · rw[Tj hx h];cases II k y<;>rfl
theorem NO{k:Int}:∀{ws:List Str}{ps:List GP},IF k ws=some ps→ps.length=ws.length∧∀p∈ps,∃x∈ws,II k x=some p
 | [],ps,h=>by cases h;exact⟨rfl,λp hp=>by cases hp⟩
 | y::ws,ps,h=>by
  unfold IF at h;cases e1:II k y with
  | none=>rw[e1] at h;cases h
  | some q=>
   cases e2:IF k ws with
   | none=>rw[e1,e2] at h;cases h
   | some qs=>
    rw[e1,e2] at h;cases h;obtain⟨a,b⟩:=NO e2;refine⟨by rw[Ax,Ax,a],λp hp=>?_⟩;rcases Au.mp hp with rfl | hp
    · exact⟨y,by simp,e1⟩
    · obtain⟨x,hx,e⟩:=b p hp;exact⟨x,by simp[hx],e⟩
def Hn(x:Str):List Str:=if x=("-":Str) then [] else AR x (" ":Str)
theorem R3:∀{l:List Nat}{a:Nat},a∈l→a≤l.sum
 | b::l,a,h=>by
  rw[List.sum_cons];rcases Au.mp h with rfl | h
  · omega
  · have:=R3 h;omega
theorem Yh(x:Str):(AR x (" ":Str)).length≤x.length+1∧∀w∈AR x (" ":Str),w.length≤x.length:=by rw[OJ];have h:=Tu x;have hne:=OX x ⟨#[32]⟩;refine⟨by omega,λw hw=>?_⟩;have h1:w.length≤((AR x ⟨#[32]⟩).map λw=>w.length).sum:=R3 (A4.mpr ⟨w,hw,rfl⟩);have h2:=Ej.mpr hne;omega
theorem N4(x:Str):(Hn x).length≤x.length+1∧∀w∈Hn x,w.length≤x.length:=by
 unfold Hn
 split
 · exact⟨AX _,λw hw=>by cases hw⟩
 · exact Yh x
def Ja(k:Int)(d:DY):Bool:=if k=3 then JL d else JJ d
def JC(k:Int):DY→Bool
 | .tup ds=>ds.all (Ja k) && HY ds
 | _=>false
theorem US(d:DY):JC 3 d=Ng d:=by cases d<;>rfl
theorem UR(d:DY):JC 2 d=Nk d:=by cases d<;>rfl
def Re:Sp:=λvs H Q _=>∃(v:V)(d:DY)(k:Int),vs=[v,.int k]∧(k=2∨k=3)∧RepY H d v∧∀H',Same H H'→Q (.bl (JC k d)) H'
def JT(k:Int)(x:Str):Option (List GP):=(IF k (Hn x)).bind λps=>if JC k (JA ps)=true then some ps else none
theorem Pa{k:Int}{w:Str}(hw:w∈Hn x)(h:II k w=none):JT k x=none:=by unfold JT;rw[Tj h hw];rfl
theorem N6{k:Int}{ps:List GP}(h:IF k (Hn x)=some ps):JT k x=if JC k (JA ps)=true then some ps else none:=by unfold JT;rw[h];rfl
theorem Ya(k:Int):JT k ("-":Str)=some []:=by
 unfold JT Hn;rw[if_pos rfl];show(if JC k (JA [])=true then some [] else none)=some []
 rw[if_pos (show JC k (JA [])=true from rfl)]
theorem TB:∀ps:List (Addr×GP),(∀p∈ps,H p.1=some (.tup (V.str p.2.1::p.2.2.map eV)))→(∀p∈ps,p.2.1.length≤2500∧p.2.2.length≤2)→RepYs H ((ps.map (·.2)).map Of) (ps.map λp=>V.ref p.1)
 | [],_,_=>by rw[CO,CO,RepYs];rfl
 | p::ps,h,g=>by rw[A7,A7,RepYs];refine⟨_,_,rfl,?_,TB ps (λq hq=>h q (Az _ hq)) λq hq=>g q (Az _ hq)⟩;have h1:=h p (by simp);have h2:=g p (by simp);show RepY H (.tup (.str p.2.1::p.2.2.map eY)) _;rw[RepY];refine⟨p.1,_,rfl,h1,by rw[Ax,Ab];omega,?_⟩;rw[RepYs];exact⟨_,_,rfl,by rw[RepY];exact⟨rfl,h2.1⟩,Sk _⟩
structure GFew(w:List GP):Prop where
 len:w.length≤2500
 ok:∀p∈w,p.1.length≤2500∧p.2.length≤2
theorem JW{w:List GP}(h:GAt H a w)(ok:GFew w):RepY H (JA w) (.ref a):=by obtain⟨ps,rfl,h1,h2⟩:=h;unfold JA;rw[RepY];refine⟨a,_,rfl,h1,by have:=ok.len;rw[Ab];exact this,TB ps h2 λp hp=>?_⟩;exact ok.ok p.2 (BM hp)
theorem NM{k:Int}{ps:List GP}(hl:x.length≤2400)(h:IF k (Hn x)=some ps):GFew ps:=by obtain⟨a,b⟩:=NO h;obtain⟨c,d⟩:=N4 x;refine⟨by omega,λp hp=>?_⟩;obtain⟨w,hw,e⟩:=b p hp;have:=UD e;have:=d w hw;omega
theorem Sj{k:Int}{ps:List GP}(hl:x.length≤2400)(h:JT k x=some ps):GFew ps:=by
 cases e:IF k (Hn x) with
 | none=>unfold JT at h;rw[e] at h;cases h
 | some qs=>
  rw[N6 e] at h
  split at h
  · cases h;exact NM hl e
  · cases h
def Ot:Option (List GP)→DY
 | none=> .tup [.non,.lst [.bl true,.bl true,.bl false]]
 | some ps=> .tup [JA ps,.lst []]
theorem Yi(o:Option (List GP)):HW (Ot o)≤4:=by
 cases o with
 | none=>decide
 | some ps=>
  have:=Q1 ps;show HW (.tup [JA ps,.lst []])≤4;rw[HW,Jx,Jx,Jx];have:HW (.lst [])≤1:=by decide
  omega
def IJ(k:Int):DY→Option (List GP)
 | .str x=>JT k x
 | _=>none
def QD(C:Addr):Sp:=λvs H Q E=>∃(v:V)(d:DY),vs=[v]∧RepY H d v∧(QO d=true→Q .non H)∧(QO d=false→E (.ref C) none H)
def Ri:Sp:=λvs H Q _=>∃x:Str,vs=[.str x]∧x.length≤2400∧∀(p:Addr),H p=none→Q (.ref p) (GZ H p (.lst ((Hn x).map V.str)))
def Sq(C:Addr):Sp:=λvs H Q E=>∃x:Str,vs=[.str x,.int 15]∧x.length≤2400∧(∀m,HV (sg x)=some m→∀H',Same H H'→Q (.int m) H')∧(HV (sg x)=none→∀H',Same H H'→E (.ref C) none H')
def Rf(C:Addr):Sp:=λvs H Q E=>∃x:Str,vs=[.str x]∧x.length≤2400∧(∀n,Ht (sg x)=some n→∀H',Same H H'→Q (.int n) H')∧(Ht (sg x)=none→∀H',Same H H'→E (.ref C) none H')
def Rb(C:Addr):Sp:=λvs H Q E=>∃x:Str,vs=[.str x]∧x.length≤2400∧(∀o,HJ (sg x)=some o→∀H',Same H H'→Q (eV o) H')∧(HJ (sg x)=none→∀H',Same H H'→E (.ref C) none H')
def Ny(k:Int)(C:Addr):Sp:=λvs H Q E=>∃x:Str,vs=[.str x]∧x.length≤2400∧(∀p,II k x=some p→∀t H',Same H H'→H t=none→H' t=some (.tup (V.str p.1::p.2.map eV))→Q (.ref t) H')∧(II k x=none→∀H',Same H H'→E (.ref C) none H')
def Nz(k:Int)(C:Addr):Sp:=λvs H Q E=>∃(v:V)(d:DY),vs=[v]∧RepY H d v∧(∀x,d= .str x→x.length≤2400)∧(∀ps,IJ k d=some ps→∀a H',Same H H'→GAt H' a ps→Q (.ref a) H')∧(IJ k d=none→∀H',Same H H'→E (.ref C) none H')
def Rh:Sp:=λvs H Q _=>∃x:Str,vs=[.str x]∧x.length≤2400∧∀H',Same H H'→Q (eV (Ht (sg x))) H'
def QF:Sp:=λvs H Q _=>∃(x:Str)(k:Int),vs=[.str x,.int k]∧(k=2∨k=3)∧x.length≤2400∧(∀p,II k x=some p→∀t H',Same H H'→H t=none→H' t=some (.tup (V.str p.1::p.2.map eV))→Q (.ref t) H')∧(II k x=none→∀H',Same H H'→Q .non H')
def O9:Sp:=λvs H Q _=>∃(x:Str)(k:Int),vs=[.str x,.int k]∧(k=2∨k=3)∧x.length≤2400∧(∀ps,JT k x=some ps→∀a H',Same H H'→GAt H' a ps→Q (.ref a) H')∧(JT k x=none→∀H',Same H H'→Q .non H')
def RZ:Sp:=λvs H Q _=>∃(b g l:Addr)(n:Int),vs=[.ref b]∧Bag H b g l n∧n≤10^7∧∀(y:Str)(H':Hp),y.length≤1→Lw y→Bag H' b g l (n+2)→SameB b g H H'→Q (.str y) H'
def Su:Sp:=λvs H Q _=>∃(b g l:Addr)(n:Int)(x:Str),vs=[.ref b,.str x]∧Bag H b g l n∧n≤10^7∧x.length≤2400∧Lw x∧∀(y:Str)(H':Hp),y.length≤2*x.length+20→Lw y→Bag H' b g l (n+3)→SameB b g H H'→Q (.str y) H'
def RV:Sp:=λvs H Q _=>∃(b g l:Addr)(n:Int)(x:Str),vs=[.ref b,.str x]∧Bag H b g l n∧n≤10^6∧x.length≤1100∧Lw x∧∀(y:Str)(H':Hp),y.length≤2*x.length+20→Lw y→Bag H' b g l (n+12)→SameB b g H H'→Q (.str y) H'
def R_:Sp:=λvs H Q _=>∃(v:V)(d:DY)(k:Int),vs=[v,.int k]∧(k=2∨k=3)∧RepY H d v∧(∀x,d= .str x→x.length≤2400)∧∀(a:Addr)(H':Hp),Same H H'→RepY H' (Ot (IJ k d)) (.ref a)→Q (.ref a) H'
def HK(ts:List Str):Nat:=(ts.map λw=>w.length).sum+ts.length
theorem O_(a b:List Str):HK (a++b)=HK a+HK b:=by unfold HK;rw[Aj,List.sum_append,A3];omega
theorem XG(x:Str):HK [x]=x.length+1:=by simp[HK]
theorem KL(x:Str)(a:List Str):HK (x::a)=x.length+1+HK a:=by rw[←XG,←O_];rfl
theorem XH{ts:List Str}{w v:Str}(h:ts[k]?=some w):HK (ts.set k v)+w.length=HK ts+v.length:=by
 induction ts generalizing k with
 | nil=>simp at h
 | cons a r ih=>
  cases k with
  | zero=>
   have:a=w:=by simpa using h
   subst this;rw[List.set_cons_zero,KL,KL];omega
  | succ k=> rw[List.set_cons_succ,KL,KL];have:=ih (by simpa using h);omega
theorem Sz(ts:List Str)(i:Nat)(w:Str):HK (ts.take i++w::ts.drop i)=HK ts+w.length+1:=by rw[O_,KL];have:=O_ (ts.take i) (ts.drop i);rw[List.take_append_drop] at this;omega
theorem Sy{ts:List Str}{w:Str}(h:ts[k]?=some w):HK (ts.eraseIdx k)+w.length+1=HK ts:=by
 induction ts generalizing k with
 | nil=>simp at h
 | cons a r ih=>
  cases k with
  | zero=>
   have:a=w:=by simpa using h
   subst this;rw[List.eraseIdx_cons_zero,KL];omega
  | succ k=> rw[CT,KL,KL];have:=ih (by simpa using h);omega
theorem SA{ts:List Str}{w:Str}(h:w∈ts):w.length+1≤HK ts:=by obtain⟨k,hk⟩:=F9 h;have:=Sy hk;omega
theorem S0(ts:List Str):ts.length≤HK ts:=by unfold HK;omega
theorem Xk{ts:List Str}(h:ts≠[]):(Di (" ":Str) ts).length+1=HK ts:=by rw[IG,NI,Pf];have:=O1 [32] (ts.map sg);rw[if_neg (by simpa using h),C2,Ab,show(BC∘sg)=λw:Str=>w.length from funext λw=>(IG w).symm] at this;have e:([32]:List Nat).length=1:=rfl;rw[e] at this;unfold HK;omega
theorem Yr(x:Str):HK (AR x (" ":Str))=x.length+1:=by rw[OJ];exact Tu x
mutual
def Hj:DY→PyData
 | .non=> .none
 | .bl b=> .bool b
 | .int i=> .int i
 | .str x=> .str x
 | .lst ds=> .list (Hs ds)
 | .tup ds=> .tuple (Hs ds)
 | .dic=> .dict []
 | .da d=> .dict [(.str "a",Hj d)]
def Hs:List DY→List PyData
 | []=>[]
 | d::ds=>Hj d::Hs ds
end
theorem Oo(I:Inv X pins σ H s){x:V}(h1:H a=some (.dK [(.inr "a",x)])):(a==BI)=false∧∃(o:Obj)(es:Array DictEntry)(ep:Nat)(e:DictEntry)(t:Tok),s.heap.get? a=some o∧o.cls= .type "dict"∧o.data= .dict es ep∧es.toList=[e]∧e.key= .str "a" t∧RelV x e.val:=by
 obtain⟨_,hS,vs,rk,o,es,ep,hg,hx,hd,hk,hp,_⟩:=JB I.hok h1;refine⟨hS,o,es,ep,?_⟩;cases rk with
 | cons r1 r2=>
  cases r2;cases z:es.toList with
  | nil=>rw[z] at hp;cases hp
  | cons e r=>
   rw[z] at hp;cases hp with
   | cons p1 p2 p3=>
    cases p3;have p1':=p1;rw[←r1.1] at p1';have hkey:∃t,e.key= .str "a" t:=by
     rcases Kh (show Lf (.inr "a") e.key=true from p1') with⟨i,t,z,_⟩ | ⟨y,t,z,ez⟩
     · cases z
     · injection z with z
       exact⟨t,by rw[ez,z]⟩
    obtain⟨t,ht⟩:=hkey;exact⟨e,t,hg,hx.1,hd,rfl,ht,by rw[p2];exact r1.2⟩
mutual
theorem JD(I:Inv X pins σ H s):∀(d:DY){v:V}{u:Value},RepY H d v→RelV v u→∃as,Reads s.heap u (Hj d) as
 | .non,v,u,h,r=>by rw[RepY] at h;subst h;cases(show u=Value.none from r);rw[Hj];exact⟨[],.none⟩
 | .bl b,v,u,h,r=>by rw[RepY] at h;subst h;cases(show u=Value.bool b from r);rw[Hj];exact⟨[],.bool b⟩
 | .int i,v,u,h,r=>by rw[RepY] at h;subst h;obtain⟨t,e⟩:=(show ∃t,u=Value.int i t from r);subst e;rw[Hj];exact⟨[],.int i t⟩
 | .str x,v,u,h,r=>by rw[RepY] at h;obtain⟨rfl,_⟩:=h;obtain⟨t,e⟩:=(show ∃t,u=Value.str x t from r);subst e;rw[Hj];exact⟨[],.str x t⟩
 | .lst ds,v,u,h,r=>by rw[RepY] at h;obtain⟨a,xs,rfl,h1,_,h2⟩:=h;cases(show u=Value.ref a from r);obtain⟨_,its,n,rv,hg⟩:=(show ObjOk X.prog X.w H s.heap a (.lst xs) from I.hok a _ h1);obtain⟨as,ra⟩:=OF I ds h2 rv;rw[Hj];exact⟨a::as,.list hg rfl rfl ra⟩
 | .tup ds,v,u,h,r=>by rw[RepY] at h;obtain⟨a,xs,rfl,h1,_,h2⟩:=h;cases(show u=Value.ref a from r);obtain⟨_,its,rv,o,hg,hc,_,n,hd⟩:=(show ObjOk X.prog X.w H s.heap a (.tup xs) from I.hok a _ h1);obtain⟨as,ra⟩:=OF I ds h2 rv;rw[Hj];exact⟨as,.tuple hg hc hd ra⟩
 | .dic,v,u,h,r=>by
  rw[RepY] at h;obtain⟨a,rfl,h1⟩:=h;cases(show u=Value.ref a from r);obtain⟨_,hS,vs,rk,o,es,ep,hg,hx,hd,hk,hp,_⟩:=JB I.hok h1;cases rk;have ee:es.toList=[]:=by
   cases z:es.toList with
   | nil=>rfl
   | cons y ys=>rw[z] at hp;cases hp
  rw[Hj];exact⟨a::[]++[],.dict (kvs:=[]) hg hx.1 hd (by rw[ee];exact .nil) (by rw[ee];exact .nil)⟩
 | .da d,v,u,h,r=>by rw[RepY] at h;obtain⟨a,x,rfl,h1,h2⟩:=h;cases(show u=Value.ref a from r);obtain⟨hS,o,es,ep,e,t,hg,hc,hd,he,hk,rv⟩:=Oo I h1;obtain⟨as,ra⟩:=JD I d h2 rv;rw[Hj];exact⟨a::([]++[])++(as++[]),.dict (kvs:=[(.str "a",Hj d)]) hg hc hd (by rw[he];exact .cons (by show Reads s.heap e.key _ _;rw[hk];exact .str _ t) .nil) (by rw[he];exact .cons ra .nil)⟩
theorem OF(I:Inv X pins σ H s):∀(ds:List DY){xs:List V}{us:List Value},RepYs H ds xs→Vals xs us→∃as,ReadsAll s.heap us (Hs ds) as
 | [],xs,us,h,r=>by rw[RepYs] at h;subst h;cases r;rw[Hs];exact⟨[],.nil⟩
 | d::ds,xs,us,h,r=>by
  rw[RepYs] at h;obtain⟨x,ys,rfl,h1,h2⟩:=h;cases r with
  | cons r1 r2=> obtain⟨as,ra⟩:=JD I d h1 r1;obtain⟨bs,rb⟩:=OF I ds h2 r2;rw[Hs];exact⟨as++bs,.cons ra rb⟩
end
mutual
theorem Qa(I:Inv X pins σ H s):∀(d:DY){v:V}{u:Value},RepY H d v→RelV v u→(Hj d).showable=true→(Hj d).shown.length≤Ag→∃bs,ReadAtMost s.heap (Hj d).depth bs∧ReprK X.prog X.w bs s.heap (Hj d).depth u (Hj d).shown
 | .non,v,u,h,r,hs,hz=>let⟨as,ra⟩:=JD I _ h r;Em ra hs (by intro z;simp[Hj,En] at z) hz
 | .bl _,v,u,h,r,hs,hz=>let⟨as,ra⟩:=JD I _ h r;Em ra hs (by intro z;simp[Hj,En] at z) hz
 | .int _,v,u,h,r,hs,hz=>let⟨as,ra⟩:=JD I _ h r;Em ra hs (by intro z;simp[Hj,En] at z) hz
 | .str _,v,u,h,r,hs,hz=>let⟨as,ra⟩:=JD I _ h r;Em ra hs (by intro z;simp[Hj,En] at z) hz
 | .dic,v,u,h,r,hs,hz=>by
  obtain⟨as,ra⟩:=JD I _ h r;rw[RepY] at h;obtain⟨a,rfl,h1⟩:=h;cases(show u=Value.ref a from r);obtain⟨_,hS,vs,rk,o,es,ep,hg,hx,hd,hk,hp,_⟩:=JB I.hok h1;cases rk;have ee:es.toList=[]:=by
   cases z:es.toList with
   | nil=>rfl
   | cons y ys=>rw[z] at hp;cases hp
  rw[Hj] at ra hs hz ⊢;refine⟨[a],Ec ra (Ae _) (λ_ h=>nomatch h),?_⟩;have:=ReprK.dict (prog:=X.prog) (w:=X.w) (as:=[]) (d:=0) hg hx.1 hd hS (by simp) (by rw[ee];exact .nil);simpa only[AK,Dc,AF,Dz] using this
 | .da d,v,u,h,r,hs,hz=>by
  obtain⟨as,ra⟩:=JD I _ h r;rw[RepY] at h;obtain⟨a,x,rfl,h1,h2⟩:=h;cases(show u=Value.ref a from r);obtain⟨hS,o,es,ep,e,t,hg,hc,hd,he,hk,rv⟩:=Oo I h1;rw[Hj] at ra hs hz ⊢;have hz':(dictText [AF (.str "a")++": "++(Hj d).shown]).length≤Ag:=by simpa only[AF,Dz] using hz
  have hzv:(Hj d).shown.length≤Ag:=by have:=dictText_mem_le (ps:=[AF (.str "a")++": "++(Hj d).shown]) (Ai.mpr rfl);rw[strLen_append,strLen_append] at this;omega
  have hza:(AF (.str "a")).length≤Ag:=by have:=dictText_mem_le (ps:=[AF (.str "a")++": "++(Hj d).shown]) (Ai.mpr rfl);rw[strLen_append,strLen_append] at this;omega
  have hs':(Hj d).showable=true:=by have:=EW [(.str "a",Hj d)] (by simpa [Bv] using hs);simpa [BG] using this.2
  obtain⟨bs,hb,hkk⟩:=Qa I d h2 rv hs' hzv;have dk:Dc [(.str "a",Hj d)]=(Hj d).depth:=by simp[Dc,AK]
  have hna:a ∉ bs:=not_mem_of_deeper ra (by simp only[AK,dk];omega) hb;refine⟨a::bs,Ec ra (by simp only[AK,dk];omega) hb,?_⟩;have:=ReprK.dict (prog:=X.prog) (w:=X.w) (as:=bs) (d:=(Hj d).depth) hg hc hd hS hna (by rw[he];exact .cons (by rw[hk];exact .of_is (ReprIs.str _ t (by simpa only[AF] using hza)) _ _ _) hkk .nil);simpa only[AK,dk,AF,Dz] using this
 | .lst ds,v,u,h,r,hs,hz=>by
  obtain⟨as,ra⟩:=JD I _ h r;rw[RepY] at h;obtain⟨a,xs,rfl,h1,_,h2⟩:=h;cases(show u=Value.ref a from r);obtain⟨_,its,n,rv,hg⟩:=(show ObjOk X.prog X.w H s.heap a (.lst xs) from I.hok a _ h1);rw[Hj] at ra hs hz ⊢;have hz':(listText (AS (Hs ds))).length≤Ag:=by simpa only[AF] using hz
  obtain⟨bs,hb,hk⟩:=JV I ds h2 rv (by simpa [Bv] using hs) (λt ht=>A8 (listText_mem_le ht) hz');have hna:a ∉ bs:=not_mem_of_deeper ra (by simp only[AK];omega) hb;refine⟨a::bs,Ec ra (by simp only[AK];omega) hb,?_⟩;simp only[AK,AF];cases its with
  | nil=>
   have e:=hk.length_eq;cases z:AS (Hs ds) with
   | nil=>rw[listText_nil];exact ReprK.listEmpty hg rfl rfl
   | cons y ys=>rw[z] at e;cases e
  | cons x l=>exact ReprK.list hg rfl rfl hna (by simpa using hk.length_eq) (λi y e=>hk.item i y (by simpa using e))
 | .tup ds,v,u,h,r,hs,hz=>by
  obtain⟨as,ra⟩:=JD I _ h r;rw[RepY] at h;obtain⟨a,xs,rfl,h1,_,h2⟩:=h;cases(show u=Value.ref a from r);obtain⟨_,its,rv,o,hg,hc,_,n,hd⟩:=(show ObjOk X.prog X.w H s.heap a (.tup xs) from I.hok a _ h1);rw[Hj] at ra hs hz ⊢;have hz':(tupleText (AS (Hs ds))).length≤Ag:=by simpa only[AF] using hz
  obtain⟨bs,hb,hk⟩:=JV I ds h2 rv (by simpa [Bv] using hs) (λt ht=>A8 (tupleText_mem_le ht) hz');have hna:a ∉ bs:=not_mem_of_deeper ra (by simp only[AK];omega) hb;refine⟨a::bs,Ec ra (by simp only[AK];omega) hb,?_⟩;simp only[AK,AF];exact ReprK.tuple hg hc hd hna hk
theorem JV(I:Inv X pins σ H s):∀(ds:List DY){xs:List V}{us:List Value},RepYs H ds xs→Vals xs us→BG (Hs ds)=true→(∀t∈AS (Hs ds),t.length≤Ag)→
 ∃bs,ReadAtMost s.heap (Cj (Hs ds)) bs∧ReprAllK X.prog X.w bs s.heap (Cj (Hs ds)) us (AS (Hs ds))
 | [],xs,us,h,r,_,_=>by rw[RepYs] at h;subst h;cases r;rw[Hs];exact⟨[],(λ_ h=>nomatch h),by simp only[AS];exact .nil⟩
 | d::ds,xs,us,h,r,hs,hz=>by
  rw[RepYs] at h;obtain⟨x,ys,rfl,h1,h2⟩:=h;rw[Hs] at hs hz ⊢;have hs':(Hj d).showable=true∧BG (Hs ds)=true:=by simpa [BG] using hs
  cases r with
  | cons r1 r2=>
   obtain⟨b1,hb1,k1⟩:=Qa I d h1 r1 hs'.1 (hz _ (by simp only[AS];exact AD ..));obtain⟨b2,hb2,k2⟩:=JV I ds h2 r2 hs'.2 (λt ht=>hz t (by simp only[AS];exact Az _ ht));refine⟨b1++b2,?_,?_⟩
   · simp only[Cj];exact(hb1.mono (Nat.le_max_left _ _)).append (hb2.mono (Nat.le_max_right _ _))
   · simp only[Cj,AS];exact .cons ((k1.more λb hb=>Cg _ hb).level_le (Nat.le_max_left _ _)) (k2.more_le (λb hb=>AB _ hb) (Nat.le_max_right _ _))
end
def Oh(d:DY):Prop:=(Hj d).showable=true∧(Hj d).shown.length≤Ag∧(Hj d).depth≤8
theorem TM(hr:Room k X.A):IZ X (.builtin "repr") (λxs H Q=>∃v d,xs=[v]∧RepY H d v∧Oh d∧Q (.str (Hj d).shown) H):=by
 intro pins s σ H xs us Q I r h;obtain⟨v,d,rfl,hd,sh,q⟩:=h;have un:=hr.units;cases d with
 | lst ds=>
  obtain⟨h1,h2,h3⟩:=sh;obtain⟨u,rfl,ru⟩:=J3 r;obtain⟨as,ra⟩:=JD I _ hd ru;rw[RepY] at hd;obtain⟨a,xs,rfl,hH,_,hx⟩:=hd;cases(show u=Value.ref a from ru);obtain⟨_,its,n,rv,hg⟩:=(show ObjOk X.prog X.w H s.heap a (.lst xs) from I.hok a _ hH);have fin:∀h' u tk,(∀b o,s.heap.get? b=some o→h'.get? b=some o)→EP X pins σ Q (.str (Hj (.lst ds)).shown u) {s with heap:=h',toks:=tk}:=λh' u tk hk=>⟨.str _,H,I.kept hk,⟨_,rfl⟩,q⟩;rw[Hj] at ra h1 h2 h3 fin;have hz':(listText (AS (Hs ds))).length≤Ag:=by simpa only[AF] using h2
  obtain⟨bs,hb,hk⟩:=JV I ds hx rv (by simpa [Bv] using h1) (λt ht=>A8 (listText_mem_le ht) hz');have hna:a ∉ bs:=not_mem_of_deeper ra (by simp only[AK];omega) hb;simp only[AK] at h3;simp only[AF] at fin;refine call_repr_slot (by omega) ⟨_,hg,rfl⟩ F.slot_list_repr.toG ?_;cases its with
  | nil=>
   have e:=hk.length_eq;cases z:AS (Hs ds) with
   | nil=> rw[z,listText_nil] at fin;exact call_list_repr_empty ⟨_,hg,rfl⟩ hg rfl ⟨_,_,rfl,fin _ _ _ λ_ _ e=>e⟩
   | cons y ys=>rw[z] at e;cases e
  | cons x l=>exact call_list_reprK hg rfl rfl hna (by simpa using hk.length_eq) (λi y e=>hk.item i y (by simpa using e)) hr.gd (λb _=>Clear.nil b) (by show X.A.units+1+_<cLine;omega) (λ_ _ e=>e) (λh' u tk hk=>⟨_,_,rfl,fin h' u tk hk⟩) hz'
 | tup ds=>
  obtain⟨h1,h2,h3⟩:=sh;obtain⟨u,rfl,ru⟩:=J3 r;obtain⟨as,ra⟩:=JD I _ hd ru;rw[RepY] at hd;obtain⟨a,xs,rfl,hH,_,hx⟩:=hd;cases(show u=Value.ref a from ru);obtain⟨_,its,rv,o,hg,hc,_,n,hdt⟩:=(show ObjOk X.prog X.w H s.heap a (.tup xs) from I.hok a _ hH);have fin:∀h' u tk,(∀b o,s.heap.get? b=some o→h'.get? b=some o)→EP X pins σ Q (.str (Hj (.tup ds)).shown u) {s with heap:=h',toks:=tk}:=λh' u tk hk=>⟨.str _,H,I.kept hk,⟨_,rfl⟩,q⟩;rw[Hj] at ra h1 h2 h3 fin;have hz':(tupleText (AS (Hs ds))).length≤Ag:=by simpa only[AF] using h2
  obtain⟨bs,hb,hk⟩:=JV I ds hx rv (by simpa [Bv] using h1) (λt ht=>A8 (tupleText_mem_le ht) hz');have hna:a ∉ bs:=not_mem_of_deeper ra (by simp only[AK];omega) hb;simp only[AK] at h3;simp only[AF] at fin;refine call_repr_slot (by omega) ⟨_,hg,hc⟩ F.slot_tuple_repr ?_;exact call_tuple_reprK hg hc hdt hna hk hr.gd (λb _=>Clear.nil b) (by show X.A.units+1+_<cLine;omega) (λ_ _ e=>e) (λh' u tk hk=>⟨_,_,rfl,fin h' u tk hk⟩) hz'
 | da d=>
  obtain⟨h1,h2,h3⟩:=sh;obtain⟨u,rfl,ru⟩:=J3 r;obtain⟨as,ra⟩:=JD I _ hd ru;rw[RepY] at hd;obtain⟨a,x,rfl,hH,hx⟩:=hd;cases(show u=Value.ref a from ru);obtain⟨hS,o,es,ep,e,t,hg,hc,hdd,he,hk,rv⟩:=Oo I hH;have fin:∀h' u tk,(∀b o,s.heap.get? b=some o→h'.get? b=some o)→EP X pins σ Q (.str (Hj (.da d)).shown u) {s with heap:=h',toks:=tk}:=λh' u tk hk=>⟨.str _,H,I.kept hk,⟨_,rfl⟩,q⟩;rw[Hj] at ra h1 h2 h3 fin;have dk:Dc [(.str "a",Hj d)]=(Hj d).depth:=by simp[Dc,AK]
  have hz':(dictText [AF (.str "a")++": "++(Hj d).shown]).length≤Ag:=by simpa only[AF,Dz] using h2
  have hm:=dictText_mem_le (ps:=[AF (.str "a")++": "++(Hj d).shown]) (Ai.mpr rfl);rw[strLen_append,strLen_append] at hm;have hs':(Hj d).showable=true:=by have:=EW [(.str "a",Hj d)] (by simpa [Bv] using h1);simpa [BG] using this.2
  obtain⟨bs,hb,hkk⟩:=Qa I d hx rv hs' (by omega);have hna:a ∉ bs:=not_mem_of_deeper ra (by simp only[AK,dk];omega) hb;simp only[AK,dk] at h3;simp only[AF,Dz] at fin;have hzz:(AF (.str "a")).length≤Ag:=by omega
  refine call_repr_slot (by omega) ⟨_,hg,hc⟩ F.slot_dict_repr ?_;exact call_dict_reprK hg hc hdd hS hna (by rw[he];exact .cons (by rw[hk];exact .of_is (ReprIs.str _ t (by simpa only[AF] using hzz)) _ _ _) hkk .nil) hr.gd (λb _=>Clear.nil b) (by show X.A.units+1+_<cLine;omega) (λ_ _ e=>e) (λh' u tk hk=>⟨_,_,rfl,by simpa only[AF] using fin h' u tk hk⟩) hz'
 | dic=>exact Mt hr pins s σ H _ us Q I r ⟨v,.dic,rfl,by rw[RepY] at hd;rw[HC];exact hd,sh,.inr (.inl rfl),q⟩
 | non=>exact Mt hr pins s σ H _ us Q I r ⟨v,.non,rfl,by rw[RepY] at hd;rw[HC];exact hd,sh,.inl rfl,q⟩
 | bl b=>exact Mt hr pins s σ H _ us Q I r ⟨v,.bl b,rfl,by rw[RepY] at hd;rw[HC];exact hd,sh,.inl rfl,q⟩
 | int i=>exact Mt hr pins s σ H _ us Q I r ⟨v,.int i,rfl,by rw[RepY] at hd;rw[HC];exact hd,sh,.inl rfl,q⟩
 | str x=>exact Mt hr pins s σ H _ us Q I r ⟨v,.str x,rfl,by rw[RepY] at hd;rw[HC];exact hd,sh,.inl rfl,q⟩
def KB:V→Bool
 | .non=>true
 | _=>false
def Oz:Value→Bool
 | .none=>true
 | _=>false
theorem RN:∀{xs:List V}{us:List Value},Vals xs us→∀u∈us,∃x∈xs,RelV x u
 | _,_,.nil,u,h=>by cases h
 | _,_,.cons r1 r2,u,h=>by
  rcases Au.mp h with rfl | h
  · exact⟨_,AD,r1⟩
  · obtain⟨x,hx,r⟩:=RN r2 u h;exact⟨x,Az _ hx,r⟩
def Nn(K:Af)(H:Hp)(v:V):Prop:=v= .non∨∃ds,GY K H (.tup ds) v∧IL (.tup ds)≤20
def Qe(K:Af):R2:=λx y H Q=>∃(l:Addr)(xs:List V),x= .non∧y= .ref l∧SqL K H l xs∧(∀v∈xs,Nn K H v)∧Q (.bl (xs.any KB)) H
theorem V8(hr:JS X):HQ X (Bj .In) (Qe X.K):=by
 intro pins s σ H x y v u Q I rx ry h;obtain⟨l,xs,rfl,rfl,hq,hp,q⟩:=h;cases ry;cases(show v=Value.none from rx);obtain⟨its,r,pl,hz⟩:=I.list hq;have one:∀{v:V}{u:Value},Nn X.K H v→RelV v u→Oz u=KB v:=λ{v u}hv rv=>by
  rcases hv with rfl | ⟨ds,hd,_⟩
  · cases(show u=Value.none from rv);rfl
  · rw[GY] at hd;obtain⟨a,ys,rfl,_⟩:=hd;cases(show u=Value.ref a from rv);rfl
 refine SeqAt.in_listAt Oz pl.isList (λz hz'=>?_) ⟨.bl _,H,I,rfl,?_⟩
 · obtain⟨w,hw,rw'⟩:=RN r z (by simpa using hz');rw[one (hp w hw) rw'];rcases hp w hw with rfl | ⟨ds,hd,hdep⟩
   · exact Lj I _ .non .non _ _ _ _ (by rw[GY]) (by rw[GY]) rw' (show RelV .non Value.none from rfl) (by have:=hr;simp only[JS,A_] at*;show _+0<_;omega)
   · have e:KB w=Hw (.tup ds) .non:=by
      rw[GY] at hd;obtain⟨a,ys,rfl,_⟩:=hd;rw[Hw]
      · rfl
      all_goals (intros;first | trivial | (intro z;cases z) | skip)
     rw[e];exact Lj I _ (.tup ds) .non _ _ _ _ hd (by rw[GY]) rw' (show RelV .non Value.none from rfl) (by have:=hr;simp only[JS,A_] at*;omega)
 · have key:∀{xs:List V}{us:List Value},Vals xs us→(∀v∈xs,Nn X.K H v)→us.any Oz=xs.any KB:=by
    intro xs us rv
    induction rv with
    | nil=>intro _;rfl
    | cons r1 r2 ih=> intro h;rw[Dk,Dk,one (h _ AD) r1,ih λv hv=>h v (Az _ hv)]
   rw[List.any_toArray,key r hp];exact q
theorem VG{t:Addr}{p:GP}(h:H t=some (.tup (V.str p.1::p.2.map eV))):Nn K H (.ref t):=by
 have e:∀es:List (Option Int),Reps K H (es.map λo=>match o with | none=>PD.non | some n=>PD.int n) (es.map eV):=λes=>by
  induction es with
  | nil=>rw[CO,CO,Reps]
  | cons o es ih=> rw[A7,A7,Reps];exact⟨_,_,rfl,by cases o<;>(rw[GY];rfl),ih⟩
 refine .inr ⟨.str p.1::p.2.map λo=>match o with | none=>PD.non | some n=>PD.int n,?_,?_⟩
 · rw[GY];refine⟨t,_,rfl,SqT.of h,?_⟩;rw[Reps];exact⟨_,_,rfl,by rw[GY],e _⟩
 · have d:∀es:List (Option Int),Jc (es.map λo=>match o with | none=>PD.non | some n=>PD.int n)≤1:=λes=>by
    induction es with
    | nil=>rw[CO,Jc];omega
    | cons o es ih=>
     rw[A7,Jc];have:IL (match o with | none=>PD.non | some n=>PD.int n)≤1:=by cases o<;>(first | decide | (simp only[IL];omega))
     omega
   rw[IL,Jc];have:=d p.2;have:IL (.str p.1)≤1:=by first | decide | (simp only[IL];omega)
   omega
def Io:Nat→Nat
 | 0=>20
 | m+1=>3*Io m+30
theorem OI:∀m,20≤Io m
 | 0=>Ae _
 | m+1=>by have:=OI m;rw[Io];omega
def ShP(m:Nat)(d:DY):Prop:=(Hj d).showable=true∧(Hj d).shown.length≤Io m∧(Hj d).depth≤2*m+1
theorem WZ(m:Nat):ShP m .non∧ShP m (.bl true)∧ShP m (.bl false)∧ShP m (.str "")∧ShP m (.str "a")∧ShP m .dic:=by have h:=OI m;have k:∀d:DY,(Hj d).showable=true→(Hj d).shown.length≤20→(Hj d).depth≤1→ShP m d:=λd h1 h2 h3=>⟨h1,by omega,by omega⟩;refine⟨k _ ?_ ?_ ?_,k _ ?_ ?_ ?_,k _ ?_ ?_ ?_,k _ ?_ ?_ ?_,k _ ?_ ?_ ?_,k _ ?_ ?_ ?_⟩<;>decide+kernel
theorem VW(m:Nat){i:Int}(h: -Ie<i∧i<Ie):ShP m (.int i):=by
 unfold Ie at h;refine⟨?_,?_,?_⟩
 · rw[Hj];simp only[Bv];have:i.natAbs.log2<1920:=by
    by_cases z:i.natAbs=0
    · rw[z];decide
    · exact(Nat.log2_lt z).mpr (BA (show i.natAbs<10^15 by omega) (by decide+kernel))
   exact decide_eq_true this
 · rw[Hj,PyData.shown_int,PySem.ofString_length];have:=int_text_length_le10 (k:=15) (by decide) (show i.natAbs<10^15 by omega);have:=OI m;omega
 · rw[Hj];simp only[AK];omega
theorem RP{m:Nat}:∀{ds:List DY},(∀d∈ds,ShP m d)→BG (Hs ds)=true∧piled (AS (Hs ds))≤(Io m+2)*ds.length∧Cj (Hs ds)≤2*m+1
 | [],_=>by rw[Hs];refine⟨by simp only[BG],by simp only[AS];exact AX _,by simp only[Cj];exact AX _⟩
 | d::ds,h=>by
  obtain⟨h1,h2,h3⟩:=h d (AD ..);obtain⟨i1,i2,i3⟩:=RP (ds:=ds) λe he=>h e (Az _ he);rw[Hs];refine⟨?_,?_,?_⟩
  · simp only[BG,h1,i1,Bool.and_self]
  · simp only[AS];rw[piled_cons,Ax,Nat.mul_add];omega
  · simp only[Cj];omega
theorem Tr{m:Nat}{ds:List DY}(h:∀d∈ds,ShP m d)(hl:ds.length≤3):BG (Hs ds)=true∧(DI ", " (AS (Hs ds))).length≤3*Io m+6∧Cj (Hs ds)≤2*m+1:=by obtain⟨h1,h2,h3⟩:=RP h;have:=Wf (AS (Hs ds));have:(Io m+2)*ds.length≤(Io m+2)*3:=Nat.mul_le_mul_left _ hl;exact⟨h1,by omega,h3⟩
theorem RQ{m:Nat}{ds:List DY}(h:∀d∈ds,ShP m d)(hl:ds.length≤3):(Hj (.lst ds)).showable=true∧(Hj (.lst ds)).shown.length≤3*Io m+8∧(Hj (.lst ds)).depth≤2*m+2:=by
 obtain⟨h1,h2,h3⟩:=Tr h hl;refine⟨?_,?_,?_⟩
 · rw[Hj];simpa only[Bv] using h1
 · rw[Hj,PyData.shown_list,strLen_append,strLen_append];have e1:("[":Str).length=1:=by decide+kernel
   have e2:("]":Str).length=1:=by decide+kernel
   omega
 · rw[Hj];simp only[AK];omega
theorem W_{m:Nat}{ds:List DY}(h:∀d∈ds,ShP m d)(hl:ds.length≤3):ShP (m+1) (.lst ds):=by obtain⟨h1,h2,h3⟩:=RQ h hl;exact⟨h1,by rw[Io];omega,by omega⟩
theorem VX{m:Nat}{ds:List DY}(h:∀d∈ds,ShP m d)(hl:ds.length≤3):ShP (m+1) (.tup ds):=by
 obtain⟨h1,h2,h3⟩:=Tr h hl;refine⟨?_,?_,?_⟩
 · rw[Hj];simpa only[Bv] using h1
 · rw[Hj,PyData.shown_tuple,strLen_append,strLen_append,Io];have e1:("(":Str).length=1:=by decide+kernel
   have e2:((if(Hs ds).length==1 then ",)" else ")":String):Str).length≤2:=by split<;>decide+kernel
   omega
 · rw[Hj];simp only[AK];omega
theorem Vg{m:Nat}{ds:List DY}(h:∀d∈ds,ShP m d)(hl:ds.length≤3):ShP (m+1) (.da (.lst ds)):=by
 obtain⟨h1,h2,h3⟩:=RQ h hl;refine⟨?_,?_,?_⟩
 · rw[Hj];simp only[Bv,PyData.showableKv,h1,Bool.and_self]
 · rw[Hj,PyData.shown_dict,strLen_append,strLen_append,Io,PyData.shownKv_cons,PyData.shownKv_nil];have e1:("{":Str).length=1:=by decide+kernel
   have e2:("}":Str).length=1:=by decide+kernel
   have e3:(AF (.str "a")++": ").length=5:=by decide+kernel
   show _+(AF (.str "a")++": "++(Hj (.lst ds)).shown).length+_≤_;rw[strLen_append,e3];omega
 · rw[Hj];simp only[AK,Dc];omega
theorem ShP.top{m:Nat}{d:DY}(h:ShP m d)(hm:m≤2):Oh d:=by
 refine⟨h.1,A8 h.2.1 ?_,by have:=h.2.2;omega⟩
 match m,hm with
 | 0,_=>decide
 | 1,_=>decide
 | 2,_=>decide
theorem VY(h:x.length≤2400)(lw:Lw x):Oh (.str x):=by refine⟨by rw[Hj];simp only[Bv],?_,by rw[Hj];simp only[AK];omega⟩;rw[Hj,PyData.shown_str];have:=StrLaws.reprText_len x λc hc=>BA (lw c hc) (by decide);show _≤2^24;omega
open PySem.Builtin PySem.Builtin.Str PySem.NumText
def RW:Sp:=λvs H Q _=>∃(v1 v2:V)(d1 d2:DY),vs=[v1,v2]∧RepY H d1 v1∧RepY H d2 v2∧∀H',Same H H'→Q (.bl (HE d1 && HE d2 && Lx d1 d2)) H'
def Ju(m:Nat):Int:=5*4^m
theorem RA(m:Nat):5≤Ju m:=by unfold Ju;have:(0:Int)<4^m:=Int.pow_pos (by decide);omega
theorem Xb(m:Nat):Ju (m+1)=4*Ju m:=by unfold Ju;rw[Int.pow_succ];omega
def Op(m:Nat):Sp:=λvs H Q _=>∃(b g l:Addr)(n:Int),vs=[.ref b,.int (m:Int)]∧Bag H b g l n∧n+Ju m≤10^8∧∀(v:V)(d:DY)(H':Hp),RepY (nw H H') d v→HW d≤2*m→ShP m d∧(∀x,d= .str x→x.length≤1∧Lw x)→Bag H' b g l (n+Ju m)→SameB b g H H'→Q v H'
def OA(m:Nat):Sp:=λvs H Q _=>∃(v v':V)(d:DY),vs=[v,v']∧m≤9∧RepY H d v∧RepY H d v'∧HW d≤m∧∀H',Same H H'→Q (.bl true) H'
def Thing9(H:Hp)(a:Addr)(size:Int):Prop:=(size=3∧∃w,WishAt H a w∧WOk w∧Ul w∧w.length≤4)∨(size=2∧∃w,PieceAt H a w∧POk w∧Um w∧w.length≤4)
def RY:Sp:=λvs H Q _=>∃(b g l:Addr)(n size most:Int),vs=[.ref b,.int size,.int most]∧Bag H b g l n∧n≤10^6∧0≤most∧most≤4∧(size=2∨size=3)∧
 ∀(r:Addr)(H':Hp),Thing9 H' r size→Bag H' b g l (n+400)→SameB b g H H'→Q (.ref r) H'
theorem Wj(n:Int):∀c∈IH n,c<1000:=λc hc=>by have:=XT n c hc;omega
theorem Wi(o:Option Int):∀c∈Ij o,c<1000:=λc hc=>by
 cases o with
 | none=>rw[Ai.mp hc];decide
 | some n=>exact Wj n c hc
theorem Xp(h:FieldOk x):∀c∈sg x,c<1000:=λc hc=>by have:=h.all c hc;unfold IX at this;simp at this;omega
theorem R1{w:List GP}(ok:GOk w)(hf:∀p∈w,FieldOk p.1)(h4:w.length≤4)(hx:sg x=J2 w):x.length≤248∧Lw x:=by
 have lowp:∀p∈w,∀c∈K6 p,c<1000:=λp hp c hc=>by
  unfold K6 at hc;rcases A6.mp hc with hc | hc
  · rcases A6.mp hc with hc | hc
    · exact Xp (hf p hp) c hc
    · rw[Ai.mp hc];decide
  · rcases N8 hc with hc | ⟨l,hl,hc⟩
    · have:c=46:=by simpa using hc
      omega
    · obtain⟨o,_,rfl⟩:=A4.mp hl;exact Wi o c hc
 refine⟨?_,λc hc=>?_⟩
 · rw[IG,hx];unfold J2
   split
   · decide
   · have:=Ov (sep:=[32]) (by decide) (ws:=w.map K6) λv hv=>by
      obtain⟨p,hp,rfl⟩:=A4.mp hv;obtain⟨a,b,d⟩:=ok.ok p hp;exact RF a b d
     rw[Ab] at this;omega
 · rw[hx] at hc;unfold J2 at hc
   split at hc
   · rw[Ai.mp hc];decide
   · rcases N8 hc with hc | ⟨l,hl,hc⟩
     · rw[Ai.mp hc];decide
     · obtain⟨p,hp,rfl⟩:=A4.mp hl;exact lowp p hp c hc
theorem Thing9.gen{k:Int}(h:Thing9 H a k):∃w,GAt H a w∧GOk w∧∀x:Str,sg x=J2 w→x.length≤248∧Lw x:=by
 rcases h with⟨_,w,h1,h2,h3,h4⟩ | ⟨_,w,h1,h2,h3,h4⟩
 · refine⟨w.map wG,h1.gen,h2.gen h3,λx hx=>R1 (h2.gen h3) (λp hp=>?_) (by rw[Ab];exact h4) hx⟩;obtain⟨q,hq,rfl⟩:=A4.mp hp;exact(h2.ok q hq).1
 · refine⟨w.map pG,h1.gen,h2.gen h3,λx hx=>R1 (h2.gen h3) (λp hp=>?_) (by rw[Ab];exact h4) hx⟩;obtain⟨q,hq,rfl⟩:=A4.mp hp;exact h2.ok q hq
theorem Qm{c:Nat}(h:c<48):(!decide ((⟨#[c]⟩:Str).cps.toList<("0":Str).cps.toList))=false:=by rw[show("0":Str).cps.toList=[48] from Ki];show(!decide (([c]:List Nat)<[48]))=false;rw[decide_eq_true (show([_]:List Nat)<[_] from List.Lex.rel h)];rfl
theorem Qu{c:Nat}(h:57<c):(!decide (("9":Str).cps.toList<(⟨#[c]⟩:Str).cps.toList))=false:=by
 rw[show("9":Str).cps.toList=[57] from by decide+kernel]
 show(!decide (([57]:List Nat)<[c]))=false;rw[decide_eq_true (show([_]:List Nat)<[_] from List.Lex.rel h)];rfl
theorem XB(x:Str):(decide (0+("-":Str).length≤x.length) && subAt x ("-":Str) 0)=decide ((sg x).head?=some 45):=by
 have e1:("-":Str).length=1:=by decide+kernel
 rw[StrLaws.subAt_eq];have e2:("-":Str).cps.toList=[45]:=NA;have e3:x.cps.toList=sg x:=rfl;rw[e1,e2,e3,IG];cases sg x with
 | nil=>rfl
 | cons c r=>
  simp;by_cases h:c=45
  · subst h;simp
  · simp[h]
theorem U4{l:List Nat}(h:LC l):HV l=some (digitsVal l):=if_pos h
theorem Np{l:List Nat}(h:¬LC l):HV l=none:=if_neg h
theorem Wm{l:List Nat}(h:l.head?≠some 45):Ht l=(HV l).map λm=>(m:Int):=if_neg h
theorem V4:Ht [45,48]=none:=by decide
theorem Wl{l:List Nat}(h:l.head?=some 45)(h2:l≠[45,48]):Ht l=(HV l.tail).map λm=> -(m:Int):=by unfold Ht;rw[if_pos h,if_neg h2]
open PySem.Builtin PySem.Builtin.Str PySem.NumText
def oQ(k:Int)(s:Str):Option (Option Int):=if k=3 then HJ (sg s) else(Ht (sg s)).map some
def Ib(k:Int)(x:Str):List Str:=if k=3 then [IN x,IY x] else [HU x]
theorem Nq{k:Int}(hk:k=2∨k=3){s:Str}(hs:s∈Ib k x)(h:oQ k s=none):II k x=none:=by
 rcases hk with rfl | rfl
 · rw[Qw];have hs:s∈[HU x]:=hs;rw[Ai.mp hs] at h;have h:(Ht (sg (HU x))).map some=none:=h;unfold Lu;cases e:Ht (sg (HU x)) with
   | none=>rfl
   | some n=>rw[e] at h;cases h
 · rw[Qv];have hs:s∈[IN x,IY x]:=hs;have h:HJ (sg s)=none:=h;rcases Au.mp hs with rfl | hs
   · exact Rn h
   · rw[Ai.mp hs] at h;exact Ro h
theorem UC{k:Int}(hk:k=2∨k=3)(h:∀s∈Ib k x,oQ k s≠none):II k x=some (IP x,(Ib k x).map λs=>(oQ k s).getD none):=by
 rcases hk with rfl | rfl
 · rw[Qw];have h0:(Ht (sg (HU x))).map some≠none:=h (HU x) (Ai.mpr rfl);unfold Lu;cases e:Ht (sg (HU x)) with
   | none=>rw[e] at h0;exact absurd rfl h0
   | some n=> show some (IP x,[some n])=some (IP x,[((Ht (sg (HU x))).map some).getD none]);rw[e];rfl
 · rw[Qv];have h1:HJ (sg (IN x))≠none:=h (IN x) (by show _∈[IN x,IY x];simp);have h2:HJ (sg (IY x))≠none:=h (IY x) (by show _∈[IN x,IY x];simp);cases e1:HJ (sg (IN x)) with
   | none=>exact absurd e1 h1
   | some a=>
    cases e2:HJ (sg (IY x)) with
    | none=>exact absurd e2 h2
    | some b=> rw[RO e1 e2];show some (IP x,[a,b])=some (IP x,[(HJ (sg (IN x))).getD none,(HJ (sg (IY x))).getD none]);rw[e1,e2];rfl
theorem sg_nil:sg ("":Str)=[]:=by decide+kernel
theorem W7{k:Int}(hk:k=2∨k=3)(h:(Ah x (":":Str)).2.1=("":Str)):II k x=none:=by
 have e:HU x=DK:=Ti (by decide+kernel) h;rcases hk with rfl | rfl
 · refine Nq (.inl rfl) (s:=HU x) (Ai.mpr rfl) ?_;show(Ht (sg (HU x))).map some=none;rw[e];rfl
 · refine Nq (.inr rfl) (s:=IN x) (by show _∈[IN x,IY x];simp) ?_;show HJ (sg (IN x))=none;have:IN x=DK:=by unfold IN;rw[e];decide+kernel
   rw[this];rfl
theorem W6(h:(Ah (HU x) ("..":Str)).2.1=("":Str)):II 3 x=none:=by have e:IY x=DK:=Ti (by decide+kernel) h;refine Nq (.inr rfl) (s:=IY x) (by show _∈[IN x,IY x];simp) ?_;show HJ (sg (IY x))=none;rw[e];rfl
theorem UA(k:Int)(x:Str):(Ib k x).length≤2∧∀s∈Ib k x,s.length≤x.length:=by
 unfold Ib
 split
 · refine⟨by simp,λs hs=>?_⟩;rcases Au.mp hs with rfl | hs
   · exact Rp x
   · rw[Ai.mp hs];exact QY x
 · exact⟨by simp,λs hs=>by rw[Ai.mp hs];exact LI x⟩
theorem UH(k:Int)(x:Str):Ib k x≠[]:=by
 unfold Ib
 split<;>simp
theorem Rs:oQ 3 ("*":Str)=some none:=by show HJ (sg ("*":Str))=some none;rw[Mm];rfl
theorem QJ{k:Int}(hk:k=2∨k=3){s:Str}(h:¬(s=("*":Str)∧k=3)):oQ k s=(Ht (sg s)).map some:=by
 rcases hk with rfl | rfl
 · rfl
 · show HJ (sg s)=_;exact if_neg λz=>h ⟨Ka (by rw[z,Mm]),rfl⟩
theorem QI{k:Int}(hk:k=2∨k=3){s:Str}(h:¬(s=("*":Str)∧k=3)):(oQ k s).getD none=Ht (sg s):=by rw[QJ hk h];cases Ht (sg s)<;>rfl
theorem Rr{k:Int}(hk:k=2∨k=3){s:Str}(hv:(oQ k s).getD none=none)(h:s≠("*":Str)∨k=2):oQ k s=none:=by
 have hn:¬(s=("*":Str)∧k=3):=λz=>by
  rcases h with h | h
  · exact h z.1
  · rw[z.2] at h;cases h
 rw[QI hk hn] at hv;rw[QJ hk hn,hv];rfl
theorem UU{k:Int}{s:Str}{n:Int}(hv:(oQ k s).getD none=some n):oQ k s≠none:=λz=>by rw[z] at hv;cases hv
theorem Tk{k:Int}:∀{ws:List Str}{qs:List GP},ws.map (II k)=qs.map some→IF k ws=some qs
 | [],[],_=>rfl
 | w::ws,q::qs,h=>by
  rw[A7,A7] at h;injection h with h1 h2
  unfold IF;rw[h1,Tk h2]
 | [],q::qs,h=>by cases h
 | w::ws,[],h=>by cases h
def Lv:Option (Addr×GP)→V
 | none=> .non
 | some q=> .ref q.1
theorem Rv:∀os:List (Option (Addr×GP)),(os.map Lv).any KB=true→none∈os
 | none::os,_=>by simp
 | some q::os,h=>by rw[A7,Dk] at h;have h:(os.map Lv).any KB=true:=h;exact Az _ (Rv os h)
theorem Ru:∀os:List (Option (Addr×GP)),(os.map Lv).any KB=false→∃qs:List (Addr×GP),os=qs.map some
 | [],_=>⟨[],rfl⟩
 | none::os,h=>by cases h
 | some q::os,h=>by rw[A7,Dk] at h;obtain⟨qs,rfl⟩:=Ru os h;exact⟨q::qs,rfl⟩
def QG:Stmt→Expr
 | .Assign _ v _=>v
 | _=> .Constant .none 0 ⟨0,0,0,0⟩
def MC:Stmt→Expr→Stmt
 | .Assign t _ p,e=> .Assign t e p
 | s,_=>s
def look:List (Str×V)→Str→Option V
 | [],_=>none
 | (k,v)::r,x=>if x=k then some v else look r x
def LO(x:Str):Bool:=decide (x.length≤16) && x.cps.toList.all λc=>decide (c<1000)
theorem NB(h:LO x=true):x.length≤16∧Lw x:=by unfold LO at h;rw[A2] at h;exact⟨of_decide_eq_true h.1,λc hc=>of_decide_eq_true (Cs.mp h.2 c hc)⟩
def K1:Expr→Option Str
 | .Constant (.str x) _ _=>some x
 | _=>none
def MV:Expr→Option Int
 | .Constant (.int k) _ _=>some k
 | _=>none
def Lz:Expr→Option (Expr×Operator×Expr)
 | .BinOp a o b _=>some (a,o,b)
 | _=>none
def QN:Operator→Bool
 | .Mult=>true
 | _=>false
def QM:Operator→Bool
 | .Add=>true
 | _=>false
def K5(a:Expr)(o:Operator)(b:Expr)(n:Nat):Bool:=QN o && (K1 a).any λz=>(MV b).any λk=>LO z && decide (0≤k) && decide (k≤100) && decide (n+z.length*k.toNat≤16)
def O2(e:Expr):Bool:=(K1 e).any LO || (Lz e).any λt=>K5 t.1 t.2.1 t.2.2 0 || (QM t.2.1 && (K1 t.1).any λy=>LO y && (Lz t.2.2).any λu=>K5 u.1 u.2.1 u.2.2 y.length)
theorem OB(h:K1 e=some x):∃j p,e= .Constant (.str x) j p:=by
 cases e with
 | Constant c j p=>
  cases c with
  | str y=>exact⟨j,p,by rw[Am (show some y=some x from h)]⟩
  | _=>cases h
 | _=>cases h
theorem WB{x:Int}(h:MV e=some x):∃j p,e= .Constant (.int x) j p:=by
 cases e with
 | Constant c j p=>
  cases c with
  | int y=>exact⟨j,p,by rw[Am (show some y=some x from h)]⟩
  | _=>cases h
 | _=>cases h
theorem RL{t:Expr×Operator×Expr}(h:Lz e=some t):∃p,e= .BinOp t.1 t.2.1 t.2.2 p:=by
 cases e with
 | BinOp a o b p=> have h:some (a,o,b)=some t:=h;rw[←Am h];exact⟨p,rfl⟩
 | _=>cases h
theorem V2{o:Operator}(h:QN o=true):o= .Mult:=by cases o<;>first | rfl | cases h
theorem Uz{o:Operator}(h:QM o=true):o= .Add:=by cases o<;>first | rfl | cases h
theorem LQ{α:Type}{o:Option α}{f:α→Bool}(h:o.any f=true):∃x,o=some x∧f x=true:=by
 cases o with
 | none=>cases h
 | some x=>exact⟨x,rfl,h⟩
def Nx:List Expr→Bool
 | []=>true
 | e::r=>O2 e && Nx r
def Vl:TE:=λ_ H Q=>∀x:Str,x.length≤16→Lw x→Q (.str x) H
def N2(n:Nat):TA:=λ_ H Q=>∀xs:List Str,xs.length=n→(∀x∈xs,x.length≤16∧Lw x)→Q (xs.map V.str) H
theorem Xs{z:Str}{k:Int}{j1 j2}{p1 p2 p3:Pos}(hz:LO z=true)(h0:0≤k)(h1:k≤100)(te:TE)(hte:∀σ H Q,te σ H Q→∀r:Str,r.length≤z.length*k.toNat→Lw r→Q (.str r) H):PE X (.BinOp (.Constant (.str z) j1 p1) .Mult (.Constant (.int k) j2 p2) p3) te:=by intro pins s σ H Q I h;obtain⟨a,b⟩:=NB hz;refine Hi R7 Hq G_ pins s σ H Q I ⟨z,k.toNat,rfl,?_,by omega,by omega,λr hr hs=>hte σ H Q h r hr (b.sub hs)⟩;rw[Int.toNat_of_nonneg h0]
theorem R4{a b:Expr}{o:Operator}{p:Pos}(h:K5 a o b n=true):∃m:Nat,n+m≤16∧PE X (.BinOp a o b p) λ_ H Q=>∀r:Str,r.length≤m→Lw r→Q (.str r) H:=by unfold K5 at h;rw[A2] at h;obtain⟨h0,h⟩:=h;obtain⟨z,hz,h⟩:=LQ h;obtain⟨k,hk,h⟩:=LQ h;simp only[A2,decide_eq_true_eq] at h;obtain⟨⟨⟨h1,h2⟩,h3⟩,h4⟩:=h;obtain⟨_,_,rfl⟩:=OB hz;obtain⟨_,_,rfl⟩:=WB hk;cases V2 h0;exact⟨_,h4,Xs h1 h2 h3 _ λσ H Q q r hr hl=>q r hr hl⟩
theorem WK(h:O2 e=true):PE X e Vl∧∀es,A1 (e::es) X.env=(false,eval e X.env)::A1 es X.env:=by
 unfold O2 at h;rw[Bool.or_eq_true] at h;rcases h with h | h
 · obtain⟨x,hx,h⟩:=LQ h;obtain⟨j,p,rfl⟩:=OB hx;exact⟨λpins s σ H Q I q=>Hq pins s σ H Q I (q x (NB h).1 (NB h).2),λ_=>rfl⟩
 · obtain⟨t,ht,h'⟩:=LQ h;clear h;have h':=(Bool.or_eq_true _ _).mp h';obtain⟨p,rfl⟩:=RL ht;refine⟨?_,λ_=>rfl⟩;rcases h' with h | h
   · obtain⟨m,hm,pe⟩:=R4 (X:=X) (p:=p) h;exact λpins s σ H Q I q=>pe pins s σ H Q I λr hr hl=>q r (by omega) hl
   · rw[A2] at h;obtain⟨h0,h⟩:=h;obtain⟨y,hy,h⟩:=LQ h;rw[A2] at h;obtain⟨h1,h⟩:=h;obtain⟨u,hu,h⟩:=LQ h;obtain⟨p2,e2⟩:=RL hu;obtain⟨m,hm,pe⟩:=R4 (X:=X) (p:=p2) h;obtain⟨t1,o,t2⟩:=t;dsimp only at*;subst e2;obtain⟨j,p3,rfl⟩:=OB hy;cases Uz h0;obtain⟨a,b⟩:=NB h1;intro pins s σ H Q I q;refine Hi IW Hq pe pins s σ H Q I (λr hr hl=>⟨y,r,rfl,rfl,Ik (by omega),q _ ?_ (b.app hl)⟩);rw[H_];omega
theorem OS:∀{es:List Expr}{n:Nat},Nx es=true→es.length=n→PA X es (N2 n)
 | [],n,_,e=>by subst e;intro pos pins s σ H Q I h;exact GV pos pins s σ H Q I (h [] rfl λx hx=>by cases hx)
 | e::es,n,h,en=>by
  subst en;unfold Nx at h;rw[A2] at h;obtain⟨h1,h2⟩:=WK (X:=X) h.1;have ih:=OS h.2 rfl;intro pos pins s σ H Q I q;have hs:A1 (e::es) X.env=(false,eval e X.env)::A1 es X.env:=h2 es;refine GU h1 ih hs pos pins s σ H Q I (λx hx lx xs hn hxs=>q (x::xs) (by rw[Ax,hn,Ax]) λy hy=>?_);rcases Au.mp hy with rfl | hy
  · exact⟨hx,lx⟩
  · exact hxs y hy
theorem Tl{es:List Expr}(he:e= .List es pos)(h:Nx es=true)(hn:es.length=n):PE X e (J1 (N2 n)):=by subst he;exact IC (OS h hn)
def sgnS:Str:=" *-:.0123456789\n\tabcdefghijklmnopqrstuvwxyzABCDEFGHIJKLMNOPQRSTUVWXYZ!\"#$&'()+,/;<=>?\x40[\\]^_`{|}~"
theorem Mn:sgnS.length=96:=by decide+kernel
theorem VU:∀c∈sgnS.cps.toList,c<1000:=by decide+kernel
theorem Ve{α:Type}{l:List α}{i:Int}(h0:0≤i)(h1:i<(l.length:Int)):∃v,Ir l i=some v∧v∈l:=by
 obtain⟨j,rfl⟩:=BH h0;have hj:j<l.length:=by omega
 exact⟨l[j],Jh (by simp[hj]),DG hj⟩
theorem Q_{i:Int}(h0:0≤i)(h1:i<96):∃c,Ir sgnS.cps.toList i=some c∧Lw (⟨#[c]⟩:Str)∧(⟨#[c]⟩:Str).length≤1:=by have e:sgnS.cps.toList.length=96:=Mn;obtain⟨c,h,hm⟩:=Ve (l:=sgnS.cps.toList) h0 (by omega);exact⟨c,h,λx hx=>by rw[Ai.mp (show x∈[c] from hx)];exact VU c hm,Ae _⟩
theorem No{ts:List Str}{i:Int}(h0:0≤i)(h1:i<(ts.length:Int)):∃t∈ts,Ir (ts.map V.str) i=some (V.str t):=by
 obtain⟨j,rfl⟩:=BH h0;have hj:j<ts.length:=by omega
 exact⟨ts[j],DG hj,Jh (by simp[hj])⟩
theorem T0:Lw (":":Str):=by unfold Lw;decide+kernel
theorem OO:Lw ("..":Str):=by unfold Lw;decide+kernel
theorem Tb(K:Af)(h:X.K=K):IZ X (.builtin "isinstance") (λxs H Q=>∃a C c b,xs=[V.ref a,c]∧H a=some (J9 a C)∧XAttr K C∧Lh c=true∧A0 K (Value.ref C) (Iq c)=some b∧Q (V.bl b) H):=by subst h;exact Xc
theorem Pg(K:Af)(h:X.K=K):IZ X (.builtin "isinstance") (λxs H Q=>∃a C tp cs b,xs=[V.ref a,V.ref tp]∧H a=some (J9 a C)∧XAttr K C∧H tp=some (.tup cs)∧cs.all Lh=true∧BB K (Value.ref C) (cs.map Iq)=some b∧Q (V.bl b) H):=by subst h;exact X0
theorem T2{α β:Type}(f:α→β):∀(l:List α)(k:Nat),(l.map f).eraseIdx k=(l.eraseIdx k).map f
 | [],_=>rfl
 | a::l,0=>rfl
 | a::l,k+1=>by rw[A7,CT,CT,A7,T2 f l k]
theorem Qn{n:Int}(h:n≤10^9):n<2^500:=Int.lt_of_le_of_lt h (by decide)
theorem RG{j:Nat}(h:j<n):JY n (j:Int)=some j:=by
 have:=Jh (xs:=AY n) (j:=j) (v:=j) (by rw[Eh h]);unfold Ir at this;rw[CC] at this;cases e:JY n (j:Int) with
 | none=>rw[e] at this;cases this
 | some k=> rw[e] at this;have this:(AY n)[k]?=some j:=this;have hk:=(Mo e).2.1;rw[Eh hk] at this;exact this
def WS:V→List V→Hp→VK→Prop:=λx vs H Q=>∃(l:Addr)(xs:List V)(i:Nat)(y:V),x= .ref l∧vs=[.int (i:Int),y]∧H l=some (.lst xs)∧i≤100000∧xs.length<Ag∧Q .non (GZ H l (.lst (xs.take (min i xs.length)++y::xs.drop (min i xs.length))))
theorem T4:KT X "list.insert" WS:=by
 intro pins s σ H x vs v us Q I rx rv h;obtain⟨l,xs,i,y,rfl,rfl,hH,hi,hz,q⟩:=h;cases rx;obtain⟨u1,u2,rfl,ru1,ru2⟩:=Kl rv;obtain⟨t,rfl⟩:=(show ∃t,u1=Value.int i t from ru1);obtain⟨z,its,n,r,hl,e⟩:=I.lstM hH;have fit:¬(!Builtin.List.listFitsIndex (i:Int))=true:=by have:=fitsIndex_both (k:=(i:Int)) (by omega) (by omega);rw[this];decide
 have tl:s.TypeIs (.ref l) "list":=⟨_,e,rfl⟩;have sz:its.toArray.size≤Ag:=by rw[Al,←hl];exact Bb hz
 obtain⟨x,hx⟩:∃x:Int,x=(i:Int):=⟨_,rfl⟩;obtain⟨items,hi2⟩:∃a,a=its.toArray:=⟨_,rfl⟩;rw[←hx] at fit ⊢;have e2:=e;rw[←hi2] at sz e2;refine call_meets F.slot_list_insert tl F.entry_list_insert (F.args_list_insert_3 _ _ _) (@PySem.AutoListH.list_insert_list_int_val_1 l items n x t u2 fit sz) ⟨e2,?_⟩;refine⟨.non,_,I.lset (ys:=xs.take (min i xs.length)++y::xs.drop (min i xs.length)) (its':=its.take (min i xs.length)++u2::its.drop (min i xs.length)) hH e ?_ ?_ ?_,rfl,q⟩
 · subst hx;have k0:(if(i:Int)<0 then((i:Int)+((its.toArray.size:Nat):Int)).toNat else min (i:Int).toNat its.toArray.size)=min i xs.length:=by
    rw[if_neg (by omega),Al];omega
   dsimp only;rw[k0];apply FK.mp;simp;exact AJ (by rw[CK];exact Ae _)
 · exact(r.take _).append (.cons ru2 (r.drop _))
 · rw[A3,Ax,AE,CK];omega
def JX:Nat→Nat
 | 0=>248
 | j+1=>2*JX j+20
theorem Wh{j:Nat}(h:j<3):JX j≤1100:=by
 match j,h with
 | 0,_=>decide
 | 1,_=>decide
 | 2,_=>decide
theorem WF{j:Nat}(h:j≤3):JX j≤2400:=by
 match j,h with
 | 0,_=>decide
 | 1,_=>decide
 | 2,_=>decide
 | 3,_=>decide
theorem Yj{ob:Bool}{k:Int}{σ:L2.St}{Q:VK}(hk:k=2∨k=3)(h4:σ[4]?=some (some (V.int k)))(h:∀m:Int,m=2∨m=3→Q (.int m) H):if ob=true then Lr (K2 λi j=>V.int (i - j)) (tC (V.int 5)) (Ia 4) σ H Q else Ia 4 σ H Q:=by
 cases ob with
 | true=>exact GX ⟨_,h4,_,_,rfl,rfl,h (5 - k) (by omega)⟩
 | false=>exact GW ⟨_,h4,h k hk⟩
def Q6(k:Int)(e:DY)(dv:V)(H:Hp):Prop:=(dv= .non∧IJ k e=none)∨∃a ps,dv= .ref a∧IJ k e=some ps∧GAt H a ps
theorem U8{σ:L2.St}{Q:VK}{x:V}{e:DY}{k:Int}(h9:σ[9]?=some (some x))(h4:σ[4]?=some (some (V.int k)))(re:RepY H e x)(hk:k=2∨k=3)(hl:∀y,e= .str y→y.length≤2400)(q:∀dv H',Same H H'→Q6 k e dv H'→Q dv H'):PX (tB (Ma (λxs H_1 Q=>∃x t c b,xs=[x,V.ty c]∧TyOf K H_1 x (Value.type t)∧A0 K (Value.type t) (Value.type c)=some b∧Q (V.bl b) H_1) (Jw (Ia 9) (Jw (tC (V.ty "str")) Im)))) (Nf O9 [] E0 (Jw (Ia 9) (Jw (Ia 4) Im))) (tC V.non) σ H Q:=by
 cases e with
 | str y=> have hy:=hl y rfl;rw[RepY] at re;obtain⟨rfl,_⟩:=re;exact⟨_,h9,_,"str","str",true,rfl,.str y,rfl,_,rfl,GX ⟨_,h9,_,h4,y,k,rfl,hk,hy,λps hps a H' s ga=>q _ _ s (.inr ⟨a,ps,rfl,hps,ga⟩),λhn H' s=>q _ _ s (.inl ⟨rfl,hn⟩)⟩⟩
 | _=>exact⟨_,h9,_,_,"str",false,rfl,re.ty,rfl,_,rfl,GW (q _ _ (Same.refl _) (.inl ⟨rfl,rfl⟩))⟩
theorem W1{σ:L2.St}{Q:List V→Hp→Prop}{e:DY}{k:Int}{dv:V}(h11:σ[11]?=some (some dv))(d:Q6 k e dv H)(few:∀ps,IJ k e=some ps→GFew ps)(q:∀t H',Same H H'→RepY H' (Ot (IJ k e)) (.ref t)→Q [.ref t] H'):Jw (Lq (Jw (Ia 11) (Jw (PX (tB (M9 (Ia 11))) (J1 (Jw (tC (V.bl true)) (Jw (tC (V.bl true)) (Jw (tC (V.bl false)) Im)))) (J1 Im)) Im))) Im σ H Q:=by
 rcases d with⟨rfl,hn⟩ | ⟨a,ps,rfl,hps,ga⟩
 · refine⟨_,h11,_,h11,_,rfl,GX ⟨(by show 3≤Ag;decide),λp hp=>⟨(by show 2≤Ag;decide),λt ht=>?_⟩⟩⟩;have s1:=Hc hp (.lst [V.bl true,V.bl true,V.bl false]);have s2:=Hc ht (.tup [V.non,V.ref p]);refine q t _ (s1.trans s2) ?_;rw[hn];exact Ml Ha (RepYs.cons (by rw[RepY]) (RepYs.cons (LW (s2 _ _ Ha) (RepYs.cons (by rw[RepY]) (RepYs.cons (by rw[RepY]) (RepYs.cons (by rw[RepY]) RepYs.nil))) (by simp)) RepYs.nil)) (by simp)
 · refine⟨_,h11,_,h11,_,rfl,GW ⟨JO,λp hp=>⟨(by show 2≤Ag;decide),λt ht=>?_⟩⟩⟩;have s1:=Hc hp (.lst []);have s2:=Hc ht (.tup [V.ref a,V.ref p]);refine q t _ (s1.trans s2) ?_;rw[hps];exact Ml Ha (RepYs.cons (JW (ga.same (s1.trans s2)) (few ps hps)) (RepYs.cons (LW (s2 _ _ Ha) RepYs.nil (by simp)) RepYs.nil)) (by simp)
theorem Xq:("a:1..2":Str).length≤2400∧Lw ("a:1..2":Str):=⟨by decide+kernel,by unfold Lw;decide+kernel⟩
theorem Vy{k:Int}{e:DY}{ps:List GP}(hl:∀y,e= .str y→y.length≤2400)(h:IJ k e=some ps):GFew ps:=by
 cases e with
 | str x=>exact Sj (hl x rfl) h
 | _=>cases h
def Asked(H:Hp)(v:V)(d:DY):Prop:=RepY H d v∧Oh d∧∀x,d= .str x→x.length≤2400∧Lw x
theorem SV(h:x.length≤2400)(lw:Lw x):Asked H (.str x) (.str x):=⟨by rw[RepY];exact⟨rfl,by omega⟩,VY h lw,λy e=>by cases e;exact⟨h,lw⟩⟩
theorem Asked.same{H':Hp}{v:V}{d:DY}(h:Asked H v d)(s:Same H H'):Asked H' v d:=⟨RepY.same s d h.1,h.2⟩
end L2
set_option maxHeartbeats 4000000
namespace K79
open PySem PySem.Spec PyProof.Rows L2
theorem MU{α:Type}{l:List (Addr×α)}{x:V}(h:(l.map λy=>V.ref y.1)[i]?=some x):∃y,l[i]?=some y∧x=V.ref y.1:=by
 rw[Ay] at h;cases e:l[i]? with
 | none=>rw[e] at h;cases h
 | some y=>rw[e] at h;exact⟨y,rfl,(Am h).symm⟩
def top(i:Nat):Stmt:=PySem.Challenge.pw_newsways_k79_whole_texts_of_no_wish.main.body.getD i (.Pass ⟨0,0,0,0⟩)
abbrev Pl:Stmt:=top 24
abbrev Pe:Stmt:=top 25
abbrev Pn:Stmt:=top 26
abbrev ND:Stmt:=top 29
abbrev P8:Stmt:=top 30
abbrev PF:Stmt:=top 31
abbrev NX:Stmt:=top 32
abbrev NQ:Stmt:=top 33
abbrev NE:Stmt:=top 34
abbrev PB:Stmt:=top 39
abbrev Pr:Stmt:=top 40
abbrev P7:Stmt:=top 41
abbrev NC:Stmt:=top 42
abbrev Py:Stmt:=top 43
abbrev Pd:Stmt:=top 44
abbrev P9:Stmt:=top 45
abbrev PH:Stmt:=top 46
abbrev Ob:Stmt:=top 37
abbrev NZ:Stmt:=top 38
abbrev Mv:Stmt:=top 48
abbrev P0:Stmt:=top 49
abbrev Ps:Stmt:=top 50
abbrev P2:Stmt:=top 51
abbrev P5:Stmt:=top 52
abbrev Px:Stmt:=top 53
abbrev M4:Stmt:=top 54
abbrev NY:Stmt:=top 55
abbrev NG:Stmt:=top 56
abbrev P3:Stmt:=top 57
abbrev NU:Stmt:=top 58
abbrev N_:Stmt:=top 59
abbrev NV:Stmt:=top 60
abbrev PK:Stmt:=top 61
abbrev PJ:Stmt:=top 62
abbrev Oa:Stmt:=top 63
abbrev M2:Stmt:=top 64
abbrev NF:Stmt:=top 65
abbrev P4:Stmt:=top 66
abbrev Ky:Stmt:=top 67
abbrev Pm:Stmt:=top 68
abbrev P6:Stmt:=top 69
abbrev Le:Stmt:=top 70
def UM(s:Stmt)(i:Nat):Stmt:=match s with | .ClassDef _ _ _ b _ _ _ _ _ _ _=>b.getD i (.Pass ⟨0,0,0,0⟩) | _=>s
abbrev LN:Stmt:=UM (top 1) 0
structure Kls(K:Af)(mg:Str→Option Value)(fI cNewsError cNoSpan cNoNumber cNoField cNoWish cNoPiece cTooMany cNoName cTwice cNotWanted cNoWeb cNoPost cNoRoad cNoHand cNoLetter cOnTheWay cFull cNoStands cNoDeed cNoText cNoRow cStuck:Addr):Prop where
 ve:mg "ValueError"=none
 m_NewsError:mg "NewsError"=some (.ref cNewsError)
 m_NoSpan:mg "NoSpan"=some (.ref cNoSpan)
 m_NoNumber:mg "NoNumber"=some (.ref cNoNumber)
 m_NoField:mg "NoField"=some (.ref cNoField)
 m_NoWish:mg "NoWish"=some (.ref cNoWish)
 m_NoPiece:mg "NoPiece"=some (.ref cNoPiece)
 m_TooMany:mg "TooMany"=some (.ref cTooMany)
 m_NoName:mg "NoName"=some (.ref cNoName)
 m_Twice:mg "Twice"=some (.ref cTwice)
 m_NotWanted:mg "NotWanted"=some (.ref cNotWanted)
 m_NoWeb:mg "NoWeb"=some (.ref cNoWeb)
 m_NoPost:mg "NoPost"=some (.ref cNoPost)
 m_NoRoad:mg "NoRoad"=some (.ref cNoRoad)
 m_NoHand:mg "NoHand"=some (.ref cNoHand)
 m_NoLetter:mg "NoLetter"=some (.ref cNoLetter)
 m_OnTheWay:mg "OnTheWay"=some (.ref cOnTheWay)
 m_Full:mg "Full"=some (.ref cFull)
 m_NoStands:mg "NoStands"=some (.ref cNoStands)
 m_NoDeed:mg "NoDeed"=some (.ref cNoDeed)
 m_NoText:mg "NoText"=some (.ref cNoText)
 m_NoRow:mg "NoRow"=some (.ref cNoRow)
 m_Stuck:mg "Stuck"=some (.ref cStuck)
 x_NoText:XCls K cNoText fI
 o_NewsError:L3 K cNewsError
 s_NoText:MX K cNoText cNewsError
 at_:XAttr K cNoText
 k_ve:A0 K (.ref cNoText) (.type "ValueError")=some true
 n_NoSpan:A0 K (.ref cNoText) (.ref cNoSpan)=some false
 n_NoNumber:A0 K (.ref cNoText) (.ref cNoNumber)=some false
 n_NoField:A0 K (.ref cNoText) (.ref cNoField)=some false
 n_NoWish:A0 K (.ref cNoText) (.ref cNoWish)=some false
 n_NoPiece:A0 K (.ref cNoText) (.ref cNoPiece)=some false
 n_TooMany:A0 K (.ref cNoText) (.ref cTooMany)=some false
 n_NoName:A0 K (.ref cNoText) (.ref cNoName)=some false
 n_Twice:A0 K (.ref cNoText) (.ref cTwice)=some false
 n_NotWanted:A0 K (.ref cNoText) (.ref cNotWanted)=some false
 n_NoWeb:A0 K (.ref cNoText) (.ref cNoWeb)=some false
 n_NoPost:A0 K (.ref cNoText) (.ref cNoPost)=some false
 n_NoRoad:A0 K (.ref cNoText) (.ref cNoRoad)=some false
 n_NoHand:A0 K (.ref cNoText) (.ref cNoHand)=some false
 n_NoLetter:A0 K (.ref cNoText) (.ref cNoLetter)=some false
 n_OnTheWay:A0 K (.ref cNoText) (.ref cOnTheWay)=some false
 n_Full:A0 K (.ref cNoText) (.ref cFull)=some false
 n_NoStands:A0 K (.ref cNoText) (.ref cNoStands)=some false
 n_NoDeed:A0 K (.ref cNoText) (.ref cNoDeed)=some false
 n_NoRow:A0 K (.ref cNoText) (.ref cNoRow)=some false
 n_Stuck:A0 K (.ref cNoText) (.ref cStuck)=some false
section
variable{mg:Str→Option Value}{base:Heap}
theorem W0:FnScope ["self","text"] ["self","text"] (Hg LN):=⟨rfl,rfl,rfl,by decide+kernel,rfl,by decide+kernel,by decide+kernel⟩
theorem Wo{f:Addr}{fd:Bf}(F:Fun K "__init__" "NewsError.__init__" LN f fd)(hv:mg "ValueError"=none):FnOk P w K mg base HH 1 f fd ["self","text"] (O3 K):=by
 refine F.ok W0 (λvs H Q E h=>?_) (λcdv A outer s H vs Q E hr h=>?_)
 · obtain⟨e,C,v,rfl,_⟩:=h;rfl
 obtain⟨e,C,v,rfl,he,hC,q⟩:=h;refine⟨_,Hd (J5 (WL rfl hv (GU (pv 0) (GU (pv 1) GV)))),?_⟩;exact⟨_,rfl,_,rfl,e,C,v,rfl,he,hC,q⟩
theorem HM{N P:List Str}{sc:Scope}(h1:sc.kind= .function:=by rfl)(h2:sc.isCoroutine=false:=by rfl)(h3:sc.isGenerator=false:=by rfl)(h4:N.Nodup:=by decide+kernel)(h5:N.take P.length=P:=by rfl)(h6:∀x∈P,sc.names.lookup x=some .local∨sc.names.lookup x=some .cell:=by decide+kernel)(h7:∀y∈sc.names,y.2≠ .free:=by decide+kernel):FnScope N P sc:=⟨h1,h2,h3,h4,h5,h6,h7⟩
theorem Y2:FnScope ["thing"] ["thing"] (Hg Pl):=HM
theorem Yc:FnScope ["thing"] ["thing"] (Hg Pe):=HM
theorem FL:FnScope ["thing","low","high"] ["thing"] (Hg Pn):=HM
theorem Y0:FnScope ["thing"] ["thing"] (Hg ND):=HM
theorem FM:FnScope ["thing","field","low","high"] ["thing"] (Hg P8):=HM
theorem FN:FnScope ["thing","field","number"] ["thing"] (Hg PF):=HM
theorem Z7:FnScope ["parts"] ["parts"] (Hg NX):=HM
theorem Yq:FnScope ["thing"] ["thing"] (Hg NQ):=HM
theorem Y1:FnScope ["thing"] ["thing"] (Hg NE):=HM
theorem Z6:FnScope ["holds"] ["holds"] (Hg PB):=HM
theorem Z4:FnScope ["thing"] ["thing"] (Hg Pr):=HM
theorem Y4:FnScope ["text"] ["text"] (Hg P7):=HM
theorem YV:FnScope ["text","most"] ["text","most"] (Hg NC):=HM
theorem Zq:FnScope ["text"] ["text"] (Hg Py):=HM
theorem Yb:FnScope ["text"] ["text"] (Hg Pd):=HM
theorem FO:FnScope ["text","field","colon","span","low","dots","high"] ["text"] (Hg P9):=HM
theorem FP:FnScope ["text","field","colon","number"] ["text"] (Hg PH):=HM
theorem FQ:FnScope ["text","wish"] ["text"] (Hg Ob):=HM
theorem FR:FnScope ["text","piece"] ["text"] (Hg NZ):=HM
theorem FT:FnScope ["script","great","lesser","stir","cell"] ["script"] (Hg Mv):=HM
theorem FU:FnScope ["bag","many","found","cell"] ["bag","many"] (Hg P0):=HM
theorem FV:FnScope ["bag","choice","number"] ["bag"] (Hg Ps):=HM
theorem Y3:FnScope ["number"] ["number"] (Hg P2):=HM
theorem FW:FnScope ["bag","choice","low","high"] ["bag"] (Hg P5):=HM
theorem Zp:FnScope ["found"] ["found"] (Hg Px):=HM
theorem FX:FnScope ["bag","choice","some"] ["bag"] (Hg M4):=HM
theorem Z5:FnScope ["bag","most"] ["bag","most"] (Hg NY):=HM
theorem T_:FnScope ["found","due"] ["found","due"] (Hg NG):=HM
theorem FY:FnScope ["bag","size","most","parts","field","span"] ["bag","size","most"] (Hg P3):=HM
theorem FZ:FnScope ["thing","words","part","ends"] ["thing"] (Hg NU):=HM
theorem F_:FnScope ["bag","deep","choice","some"] ["bag","deep"] (Hg N_):=HM
theorem ZE:FnScope ["thing"] ["thing"] (Hg NV):=HM
theorem Ga:FnScope ["low","high","end"] ["low","high"] (Hg PK):=HM
theorem Gb:FnScope ["thing","size","k","part"] ["thing","size"] (Hg PJ):=HM
theorem Gc:FnScope ["word","figures"] ["word"] (Hg Oa):=HM
theorem Gd:FnScope ["word","size","field","sign","rest","low","dots","high","ends","values","lacks"] ["word","size"] (Hg M2):=HM
theorem Ge:FnScope ["text","size","parts"] ["text","size"] (Hg NF):=HM
theorem Gf:FnScope ["bag","some"] ["bag"] (Hg P4):=HM
theorem Gg:FnScope ["bag","word","choice","numbers","some","number","field"] ["bag","word"] (Hg Ky):=HM
theorem Gh:FnScope ["bag","text","choice","sign","at","words","k","to"] ["bag","text"] (Hg Pm):=HM
theorem Gi:FnScope ["text","size","found","kinds","e","others"] ["text","size"] (Hg P6):=HM
theorem Gj:FnScope ["script","bag","last","turn","size","spoils","other","text","k","one","kept","due"] ["script"] (Hg Le):=HM
section
variable(P:Bk)(w:World)(K:Af)(mg:Str→Option Value)(base:Heap)
abbrev Γ0:=HR P w K mg base 1 "is_whole" ["thing"] (N1 K)
abbrev Γ1:=HR P w K mg base 2 "is_end" ["thing"] (QE K)
abbrev Γ3:=HR P w K mg base 1 "is_field" ["thing"] (JM Jk)
abbrev Γ2:=HR P w K mg base 3 "is_span" ["thing"] (Sr K)
abbrev Γ6:=HR P w K mg base 1 "fields_ascend" ["parts"] (RX (λds=>∀d∈ds,(JG d).isSome=true) HY)
abbrev Γ4:=HR P w K mg base 4 "is_wish_part" ["thing"] (JM JL)
abbrev Γ5:=HR P w K mg base 2 "is_piece_part" ["thing"] (JM JJ)
abbrev Γ9(cNoText:Addr):=IK P w K mg base 3 "check_written" ["holds"] (MB cNoText)
abbrev Γ12(cNoText:Addr):=IK P w K mg base 4 "count_in" ["text","most"] (Sq cNoText)
abbrev Γ13(cNoText:Addr):=IK P w K mg base 5 "number_in" ["text"] (Rf cNoText)
abbrev Γ14(cNoText:Addr):=IK P w K mg base 6 "end_in" ["text"] (Rb cNoText)
abbrev Γ10(cNoText:Addr):=IK P w K mg base 4 "check_text" ["thing"] (QD cNoText)
abbrev Γ7:=HR P w K mg base 5 "is_wish" ["thing"] (JM Ng)
abbrev Γ15(cNoText:Addr):=IK P w K mg base 7 "wish_part_in" ["text"] (Ny 3 cNoText)
abbrev Γ11:=HR P w K mg base 1 "words_in" ["text"] (Ri)
abbrev Γ8:=HR P w K mg base 3 "is_piece" ["thing"] (JM Nk)
abbrev Γ16(cNoText:Addr):=IK P w K mg base 6 "piece_part_in" ["text"] (Ny 2 cNoText)
abbrev Γ20:=HR P w K mg base 1 "_law_draw" ["bag","many"] (Ra)
abbrev Γ21:=HR P w K mg base 2 "_law_number" ["bag"] (Ss)
abbrev Γ22:=HR P w K mg base 1 "_law_held" ["number"] (Rc)
abbrev Γ25:=HR P w K mg base 2 "_law_field" ["bag"] (TF)
abbrev Γ26:=HR P w K mg base 3 "_law_fields" ["bag","most"] (Ua)
abbrev Γ23:=HR P w K mg base 3 "_law_span" ["bag"] (Rg)
abbrev Γ24:=HR P w K mg base 1 "_law_whole" ["found"] (N1 K)
abbrev Γ31:=HR P w K mg base 1 "_law_is_field" ["thing"] (JM Jk)
abbrev Γ32:=HR P w K mg base 2 "_law_is_span" ["low","high"] (RW)
abbrev Γ34:=HR P w K mg base 1 "_law_value" ["word"] (Rh)
abbrev Γ35:=HR P w K mg base 2 "_law_part_of" ["word","size"] (QF)
abbrev Γ33:=HR P w K mg base 3 "_law_is_made" ["thing","size"] (Re)
abbrev Γ37:=HR P w K mg base 2 "_law_sign" ["bag"] (RZ)
abbrev Γ38:=HR P w K mg base 2 "_law_other_word" ["bag","word"] (Su)
abbrev Γ17(cNoText:Addr):=IK P w K mg base 8 "read_wish" ["text"] (Nz 3 cNoText)
abbrev Γ18(cNoText:Addr):=IK P w K mg base 7 "read_piece" ["text"] (Nz 2 cNoText)
abbrev Γ19:=HR P w K mg base 1 "_law_bag" ["script"] (QC K)
abbrev Γ29:=HR P w K mg base 1 "_law_written" ["thing"] (Ts)
abbrev Γ28:=HR P w K mg base 4 "_law_made" ["bag","size","most"] (RY)
abbrev Γ39:=HR P w K mg base 3 "_law_bent" ["bag","text"] (RV)
abbrev Γ30:=HR P w K mg base 6 "_law_plain" ["bag","deep"] (Mj 2 Op)
abbrev Γ36:=HR P w K mg base 4 "_law_read" ["text","size"] (O9)
abbrev Γ27:=HR P w K mg base 11 "_law_same" ["found","due"] (Mj 9 OA)
abbrev Γ40:=HR P w K mg base 9 "_law_told" ["text","size"] (R_)
end
theorem zq0:0≤Ag:=by decide
theorem Om:1≤Ag:=by decide
theorem Ur:4≤Ag:=by decide
theorem Uq:5≤Ag:=by decide
theorem Up:6≤Ag:=by decide
theorem Q7:8≤Ag:=by decide
theorem K4:Ca (["sign"]:List Str):=by decide+kernel
theorem MT:Ca (["ahead","behind"]:List Str):=by decide+kernel
theorem MP:Ca (["part"]:List Str):=by decide+kernel
theorem MO:Ca (["word"]:List Str):=by decide+kernel
theorem MN:Ca (["cell"]:List Str):=by decide+kernel
theorem MM:Ca (["k","bag","some"]:List Str):=by decide+kernel
theorem Ql:Ca (["k","bag"]:List Str):=by decide+kernel
theorem Qk:Ca (["k","found","due"]:List Str):=by decide+kernel
theorem Qj:Ca (["end"]:List Str):=by decide+kernel
theorem Qi:Ca (["k","bag","deep"]:List Str):=by decide+kernel
theorem MS:Ca (["end","size"]:List Str):=by decide+kernel
theorem MR:Ca (["k","size","ends","values"]:List Str):=by decide+kernel
theorem MQ:Ca (["word","size"]:List Str):=by decide+kernel
theorem Ii:2≤Ag:=by decide
theorem Me:3≤Ag:=by decide
variable{f:Addr}{fd:Bf}(B:Bl mg){fI cNewsError cNoSpan cNoNumber cNoField cNoWish cNoPiece cTooMany cNoName cTwice cNotWanted cNoWeb cNoPost cNoRoad cNoHand cNoLetter cOnTheWay cFull cNoStands cNoDeed cNoText cNoRow cStuck:Addr}{fdI:Bf}(Cl:Kls K mg fI cNewsError cNoSpan cNoNumber cNoField cNoWish cNoPiece cTooMany cNoName cTwice cNotWanted cNoWeb cNoPost cNoRoad cNoHand cNoLetter cOnTheWay cFull cNoStands cNoDeed cNoText cNoRow cStuck)(F_init:FnOk P w K mg base HH 1 fI fdI ["self","text"] (O3 K))(b_init:Binds K fdI ["self","text"] []){tML':Tok}(qML':mg "MOST_LETTERS"=some (.int 8 tML')){tMF':Tok}(qMF':mg "MOST_FIGURES"=some (.int 15 tMF'))
include B Cl F_init b_init qML' qMF'
theorem YH(F:Fun K "is_whole" "is_whole" Pl f fd)  :FnOk P w K mg base HH 1 f fd ["thing"] (N1 K):=by
 refine F.ok Y2 (λvs H Q E h=>?_) (λcdv A outer s H vs Q E hr h=>?_)
 · obtain⟨v,t,rfl,hty,q⟩:=h;rfl
 obtain⟨v,t,rfl,hty,q⟩:=h;refine⟨_,(Hd (Hf (Km (Hr (Iy (n:="")) rfl B.isinstance_ HX (GU (pv 0) (GU (HZ (v:= .ty "int") rfl B.int_ Ko rfl) GV))) (Jy (QZ (Hr (Iy (n:="")) rfl B.isinstance_ HX (GU (pv 0) (GU (HZ (v:= .ty "bool") rfl B.bool_ Nu rfl) GV)))))))),?_⟩;cases hty
 all_goals first
  | exact⟨_,rfl,_,"int","int",true,rfl,.int _,rfl,_,rfl,GX ⟨_,rfl,_,"int","bool",false,rfl,.int _,rfl,_,rfl,q⟩⟩
  | exact⟨_,rfl,_,"bool","int",true,rfl,.bl _,rfl,_,rfl,GX ⟨_,rfl,_,"bool","bool",true,rfl,.bl _,rfl,_,rfl,q⟩⟩
  | exact⟨_,rfl,_,_,"int",false,rfl,(by first | exact .non | exact .str _ | exact .flt _ | (exact .lst (by assumption)) | (exact .frz (by assumption)) | (exact .tup (by assumption)) | (exact .dK (by assumption)) | (exact .dT (by assumption))),rfl,_,rfl,GW q⟩
theorem Xw(F:Fun K "is_end" "is_end" Pe f fd)(Gk:Γ0 P w K mg base):FnOk P w K mg base HH 2 f fd ["thing"] (QE K):=by
 refine F.ok Yc (λvs H Q E h=>?_) (λcdv A outer s H vs Q E hr h=>?_)
 · obtain⟨v,t,rfl,hty,q⟩:=h;rfl
 obtain⟨v,t,rfl,hty,q⟩:=h;refine⟨_,(Hd (Hf (K9 (LM (J_ (pv 0))) (Jy (Hm Gk (hr.mono (by decide)) rfl (GU (pv 0) GV)))))),?_⟩;refine⟨_,rfl,_,rfl,?_⟩;cases hty
 case non=>exact GX q
 all_goals refine GW ?_
 case int i=>exact⟨_,rfl,_,_,rfl,.int _,q⟩
 all_goals exact⟨_,rfl,_,_,rfl,(by first | exact .bl _ | exact .str _ | exact .flt _ | (exact .lst (by assumption)) | (exact .frz (by assumption)) | (exact .tup (by assumption)) | (exact .dK (by assumption)) | (exact .dT (by assumption))),q⟩
theorem XU(F:Fun K "is_span" "is_span" Pn f fd)(Gm:Γ1 P w K mg base):FnOk P w K mg base HH 3 f fd ["thing"] (Sr K):=by
 refine F.ok FL (λvs H Q E h=>?_) (λcdv A outer s H vs Q E hr h=>?_)
 · obtain⟨v,t,rfl,hty,hp,q⟩:=h;rfl
 obtain⟨v,t,rfl,hty,hp,q⟩:=h;refine⟨_,(Hb (HD (PW.pt (Jb (IM (Iz (Hr (Iy (n:="")) rfl B.isinstance_ HX (GU (pv 0) (GU (HZ (v:= .ty "tuple") rfl B.tuple_ Js rfl) GV))))) (Jz (Ho JH (Hr JN rfl B.len_ I_ (GU (pv 0) GV)) G_ (Hh _))))) (Hd (Hf Iv)) HI)
  (Hb (JK (pv 0) (Kn rfl (Ix (HA (i:=1) FL.nd rfl (Or.inl rfl)) (Ix (HA (i:=2) FL.nd rfl (Or.inl rfl)) Ku))))
  (Hb (HD (PW.pt (Jb (IM (Iz (Hm Gm (hr.mono (by decide)) rfl (GU (pv 1) GV)))) (Jz (IM (Iz (Hm Gm (hr.mono (by decide)) rfl (GU (pv 2) GV))))))) (Hd (Hf Iv)) HI)
  (Hd (Hf (K9 (LM (J_ (pv 1))) (K9 (LM (J_ (pv 2))) (Jy (J4 LH (pv 1) (pv 2) (Hh _)))))))))),?_⟩
 have q0:Jt H v=false→Q (.bl false) H:=λh=>by rw[←h];exact q
 cases hty
 case tup a xs e=>
  refine⟨_,rfl,_,"tuple","tuple",true,rfl,.tup e,rfl,_,rfl,GW ⟨_,rfl,a,_,rfl,.inr (SqT.of e),rfl,_,rfl,?_⟩⟩;by_cases hl:xs.length=2
  · match xs,hl with
    | [x,y],_=>
     refine GW ⟨_,rfl,a,_,rfl,SqT.of e,rfl,_,_,rfl,_,_,rfl,rfl,?_⟩;obtain⟨t1,t2,h1,h2⟩:=hp a x y rfl e;have es:Jt H (.ref a)=(IS x && IS y && Od x y):=by unfold Jt;simp only[e]
     rw[es] at q;refine⟨_,rfl,_,_,rfl,h1,_,rfl,?_⟩;cases ex:IS x with
     | false=> rw[ex] at q;exact GX q
     | true=>
      rw[ex] at q;refine GW ⟨_,rfl,_,_,rfl,h2,_,rfl,?_⟩;cases ey:IS y with
      | false=> rw[ey] at q;exact GX q
      | true=>
       rw[ey] at q;refine GW ⟨_,rfl,_,rfl,?_⟩;cases x with
       | non=>exact GX q
       | int i=>
        refine GW ⟨_,rfl,_,rfl,?_⟩;cases y with
        | non=>exact GX q
        | int j=>exact GW ⟨_,rfl,_,rfl,_,_,rfl,rfl,q⟩
        | _=>exact absurd ey Aw
       | _=>exact absurd ex Aw
  · have es:Jt H (.ref a)=false:=by
     unfold Jt;simp only[e]
     match xs,hl with
     | [],_=>rfl
     | [_],_=>rfl
     | [_,_],h=>exact absurd rfl h
     | _::_::_::_,_=>rfl
    have ed:(!decide (V.int ((xs.length:Nat):Int)=V.int 2))=true:=by
     have:¬V.int ((xs.length:Nat):Int)=V.int 2:=λz=>by injection z with z;omega
     rw[decide_eq_false this];rfl
    rw[es] at q;show if(!decide (V.int ((xs.length:Nat):Int)=V.int 2))=true then _ else _
    rw[ed];exact GX q
 case non=>exact⟨_,rfl,_,_,"tuple",false,rfl,.non,rfl,_,rfl,GX (q0 rfl)⟩
 case bl b=>exact⟨_,rfl,_,_,"tuple",false,rfl,(.bl b),rfl,_,rfl,GX (q0 rfl)⟩
 case int i=>exact⟨_,rfl,_,_,"tuple",false,rfl,(.int i),rfl,_,rfl,GX (q0 rfl)⟩
 case str x=>exact⟨_,rfl,_,_,"tuple",false,rfl,(.str x),rfl,_,rfl,GX (q0 rfl)⟩
 case flt x=>exact⟨_,rfl,_,_,"tuple",false,rfl,(.flt x),rfl,_,rfl,GX (q0 rfl)⟩
 case lst a xs e=>exact⟨_,rfl,_,_,"tuple",false,rfl,(.lst e),rfl,_,rfl,GX (q0 (by unfold Jt;simp only[e]))⟩
 case frz a o xs e=>exact⟨_,rfl,_,_,"tuple",false,rfl,(.frz e),rfl,_,rfl,GX (q0 (by unfold Jt;simp only[e]))⟩
 case dK a kvs e=>exact⟨_,rfl,_,_,"tuple",false,rfl,(.dK e),rfl,_,rfl,GX (q0 (by unfold Jt;simp only[e]))⟩
 case dT a kvs e=>exact⟨_,rfl,_,_,"tuple",false,rfl,(.dT e),rfl,_,rfl,GX (q0 (by unfold Jt;simp only[e]))⟩
theorem YF(F:Fun K "is_field" "is_field" ND f fd)  :FnOk P w K mg base HH 1 f fd ["thing"] (JM Jk):=by
 refine F.ok Y0 (λvs H Q E h=>?_) (λcdv A outer s H vs Q E hr h=>?_)
 · obtain⟨v,d,rfl,hd,q⟩:=h;rfl
 obtain⟨v,d,rfl,hd,q⟩:=h;refine⟨_,(Hb (HD (PW.pt (Jb (IM (Iz (Hr (Iy (n:="")) rfl B.isinstance_ HX (GU (pv 0) (GU (HZ (v:= .ty "str") rfl B.str_ KC rfl) GV))))) (Jz (IM (WR LH LH G_ (Hr Lp rfl B.len_ I_ (GU (pv 0) GV)) (IB (v:= .int 8) rfl qML' ⟨_,rfl⟩)))))) (Hd (Hf Iv)) HI)
  (Hd (Hf (Hr (LY rfl) rfl B.all_ LR (GU (JI (N':=["sign"]) (js:=[none]) rfl (IV (N:=["thing"]) (outer:=Hg ND) (by decide+kernel)) (Ni (pv 0)) (λ_ _ _ _ _=>(HA (i:=0) K4 rfl (Or.inl rfl))) (λ_ _ _ _ _=>J0) (λ_ _ _ _ _=>(OT NL NL Hq (pv 0) Hq))) GV))))),?_⟩
 cases d with
 | str x=>
  rw[RepY] at hd;obtain⟨rfl,hx⟩:=hd;refine⟨_,rfl,_,"str","str",true,rfl,.str x,rfl,_,rfl,GW ⟨_,rfl,x,rfl,Ik (by omega),_,_,rfl,rfl,_,rfl,?_⟩⟩;have qf:∀b,J6 x=b→∀H',Same H H'→Q (.bl b) H':=λb e H' s=>by rw[←e];exact q H' s
  by_cases l1:(1:Int)≤(x.length:Int)
  · rw[decide_eq_true l1];refine GX ⟨_,_,rfl,rfl,_,rfl,?_⟩;by_cases l8:(x.length:Int)≤8
    · rw[decide_eq_true l8];refine GW ⟨_,rfl,x,rfl,λp hp=>?_⟩;have sl:(L2.signs x).length=x.length:=by unfold L2.signs;rw[Ab,Ar];rfl
      refine Nr (xs:=L2.signs x) (λi σ' ys H'=>(∃v,σ'=[v])∧Same H H'∧H' p=some (.lst ys)∧ys=((x.cps.toList.take i).map IX).map V.bl) ⟨⟨none,rfl⟩,Hc hp _,Ha,rfl⟩ ?_ ?_ ?_
      · rintro i σ' ys H' hi ⟨_,_,h1,h2⟩;refine⟨h1,?_⟩;rw[h2,Ab,Ab,AE];exact Il (by omega)
      · rintro i y σ' ys H' N hy ⟨⟨v,rfl⟩,s,h1,h2⟩ hN;unfold L2.signs at hy;rw[Ay] at hy;cases hc:x.cps.toList[i]? with
        | none=>rw[hc] at hy;cases hy
        | some c=>
         rw[hc] at hy;obtain rfl:V.str ⟨#[c]⟩=y:=Am hy;refine⟨_,rfl,_,_,rfl,rfl,_,rfl,?_⟩;rw[UJ];have fin:∀b,IX c=b→H' p=some (.lst ys)∧N [some (V.str ⟨#[c]⟩)] (ys++[V.bl b]) (GZ H' p (.lst (ys++[V.bl b]))):=λb e=>
          ⟨h1,hN _ _ _ ⟨⟨_,rfl⟩,Jn s hp,Ha,by rw[h2,Jd hc,Aj,Aj,←e];rfl⟩⟩
         cases hb:decide (97≤c) with
         | true=> refine GX ⟨_,_,rfl,rfl,?_⟩;dsimp only;rw[UQ];exact fin _ (by unfold IX;rw[hb,DF])
         | false=>exact GW (fin _ (by unfold IX;rw[hb,Ek]))
      · rintro σ' ys H' ⟨_,s,h1,h2⟩;have et:x.cps.toList.take (L2.signs x).length=x.cps.toList:=AJ (by rw[sl];exact Nat.le_of_eq (Ar ..));refine⟨p,x.cps.toList.map IX,rfl,SqL.of (by rw[h1,h2,et]),qf _ ?_ H' s⟩;have e1:decide (1≤x.length)=true:=decide_eq_true (by omega);have e2:decide (x.length≤8)=true:=decide_eq_true (by omega);unfold J6;rw[e1,e2,O7];rfl
    · rw[decide_eq_false l8];refine GX (qf _ ?_ H (Same.refl _));have e2:decide (x.length≤8)=false:=decide_eq_false (by omega);unfold J6;rw[e2,CG];rfl
  · rw[decide_eq_false l1];refine GW ⟨_,rfl,GX (qf _ ?_ H (Same.refl _))⟩;have e1:decide (1≤x.length)=false:=decide_eq_false (by omega);unfold J6;rw[e1];rfl
 | _=>exact⟨_,rfl,_,_,"str",false,rfl,hd.ty,rfl,_,rfl,GX (q _ (Same.refl _))⟩
theorem ZB(F:Fun K "is_wish_part" "is_wish_part" P8 f fd)(Gn:Γ3 P w K mg base)(Go:Γ2 P w K mg base):FnOk P w K mg base HH 4 f fd ["thing"] (JM JL):=by
 refine F.ok FM (λvs H Q E h=>?_) (λcdv A outer s H vs Q E hr h=>?_)
 · obtain⟨v,d,rfl,hd,q⟩:=h;rfl
 obtain⟨v,d,rfl,hd,q⟩:=h;refine⟨_,(Hb (HD (PW.pt (Jb (IM (Iz (Hr (Iy (n:="")) rfl B.isinstance_ HX (GU (pv 0) (GU (HZ (v:= .ty "tuple") rfl B.tuple_ Js rfl) GV))))) (Jz (Ho JH (Hr JN rfl B.len_ I_ (GU (pv 0) GV)) G_ (Hh _))))) (Hd (Hf Iv)) HI)
  (Hb (JK (pv 0) (Kn rfl (Ix (HA (i:=1) FM.nd rfl (Or.inl rfl)) (Ix (HA (i:=2) FM.nd rfl (Or.inl rfl)) (Ix (HA (i:=3) FM.nd rfl (Or.inl rfl)) Ku)))))
  (Hd (Hf (Km (Hm Gn (hr.mono (by decide)) rfl (GU (pv 1) GV)) (Jy (Hm Go (hr.mono (by decide)) rfl (GU (IU (GU (pv 2) (GU (pv 3) GV))) GV)))))))),?_⟩
 cases d with
 | tup ds=>
  rw[RepY] at hd;obtain⟨a,xs,rfl,h1,h0,h2⟩:=hd;have lx:=h2.length;refine⟨_,rfl,_,"tuple","tuple",true,rfl,.tup h1,rfl,_,rfl,GW ⟨_,rfl,a,_,rfl,.inr (SqT.of h1),rfl,_,rfl,?_⟩⟩;by_cases hl:ds.length=3
  · refine Ou (by rw[lx,hl];rfl) ?_;obtain⟨df,dl,dh,rfl⟩:∃x y z,ds=[x,y,z]:=by
     match ds,hl with
     | [x,y,z],_=>exact⟨x,y,z,rfl⟩
    obtain⟨vf,vl,vh,rfl,r1,r2,r3⟩:=h2.three;refine⟨_,rfl,a,_,rfl,SqT.of h1,rfl,_,_,rfl,_,_,rfl,_,_,rfl,rfl,?_⟩;refine⟨_,rfl,vf,df,rfl,r1,λH1 s1=>⟨_,rfl,?_⟩⟩;have qw:JL (.tup [df,dl,dh])=(Jk df && KA (.tup [dl,dh])):=rfl;rw[qw] at q;cases hf:Jk df with
    | false=> rw[hf] at q;exact GW (q _ s1)
    | true=>
     rw[hf,DF] at q;refine GX ⟨_,rfl,_,rfl,Ii,λt ht=>?_⟩;have st:=Hc ht (.tup [vl,vh]);have rt:RepY (GZ H1 t (.tup [vl,vh])) (.tup [dl,dh]) (.ref t):=by rw[RepY];exact⟨t,_,rfl,Ha,by simp,RepYs.mk2 (r2.same (s1.trans st)) (r3.same (s1.trans st))⟩
     obtain⟨e1,e2⟩:=V_ (K:=K) rt;refine⟨.ref t,_,rfl,rt.ty,e2,?_⟩;rw[e1];exact q _ (s1.trans st)
  · rw[Tg hl] at q;have:¬V.int (xs.length:Int)=V.int 3:=λz=>hl (by injection z with z;omega)
    rw[decide_eq_false this];exact GX (q _ (Same.refl _))
 | _=>exact⟨_,rfl,_,_,"tuple",false,rfl,hd.ty,rfl,_,rfl,GX (q _ (Same.refl _))⟩
theorem ZH(F:Fun K "is_piece_part" "is_piece_part" PF f fd)(Gn:Γ3 P w K mg base)(Gk:Γ0 P w K mg base):FnOk P w K mg base HH 2 f fd ["thing"] (JM JJ):=by
 refine F.ok FN (λvs H Q E h=>?_) (λcdv A outer s H vs Q E hr h=>?_)
 · obtain⟨v,d,rfl,hd,q⟩:=h;rfl
 obtain⟨v,d,rfl,hd,q⟩:=h;refine⟨_,(Hb (HD (PW.pt (Jb (IM (Iz (Hr (Iy (n:="")) rfl B.isinstance_ HX (GU (pv 0) (GU (HZ (v:= .ty "tuple") rfl B.tuple_ Js rfl) GV))))) (Jz (Ho JH (Hr JN rfl B.len_ I_ (GU (pv 0) GV)) G_ (Hh _))))) (Hd (Hf Iv)) HI)
  (Hb (JK (pv 0) (Kn rfl (Ix (HA (i:=1) FN.nd rfl (Or.inl rfl)) (Ix (HA (i:=2) FN.nd rfl (Or.inl rfl)) Ku))))
  (Hd (Hf (Km (Hm Gn (hr.mono (by decide)) rfl (GU (pv 1) GV)) (Jy (Hm Gk (hr.mono (by decide)) rfl (GU (pv 2) GV)))))))),?_⟩
 cases d with
 | tup ds=>
  rw[RepY] at hd;obtain⟨a,xs,rfl,h1,h0,h2⟩:=hd;have lx:=h2.length;refine⟨_,rfl,_,"tuple","tuple",true,rfl,.tup h1,rfl,_,rfl,GW ⟨_,rfl,a,_,rfl,.inr (SqT.of h1),rfl,_,rfl,?_⟩⟩;by_cases hl:ds.length=2
  · refine Ou (by rw[lx,hl];rfl) ?_;obtain⟨df,dn,rfl⟩:∃x y,ds=[x,y]:=by
     match ds,hl with
     | [x,y],_=>exact⟨x,y,rfl⟩
    obtain⟨vf,vn,rfl,r1,r2⟩:=h2.two;refine⟨_,rfl,a,_,rfl,SqT.of h1,rfl,_,_,rfl,_,_,rfl,rfl,?_⟩;refine⟨_,rfl,vf,df,rfl,r1,λH1 s1=>⟨_,rfl,?_⟩⟩;have qw:JJ (.tup [df,dn])=(Jk df && Kb dn):=rfl;rw[qw] at q;cases hf:Jk df with
    | false=> rw[hf] at q;exact GW (q _ s1)
    | true=> rw[hf,DF] at q;refine GX ⟨_,rfl,vn,_,rfl,(r2.same s1).ty,?_⟩;rw[Tf];exact q _ s1
  · rw[To hl] at q;have:¬V.int (xs.length:Int)=V.int 2:=λz=>hl (by injection z with z;omega)
    rw[decide_eq_false this];exact GX (q _ (Same.refl _))
 | _=>exact⟨_,rfl,_,_,"tuple",false,rfl,hd.ty,rfl,_,rfl,GX (q _ (Same.refl _))⟩
theorem ZG(F:Fun K "fields_ascend" "fields_ascend" NX f fd)  :FnOk P w K mg base HH 1 f fd ["parts"] (RX (λds=>∀d∈ds,(JG d).isSome=true) HY):=by
 refine F.ok Z7 (λvs H Q E h=>?_) (λcdv A outer s H vs Q E hr h=>?_)
 · obtain⟨v,ds,rfl,hd,hp,q⟩:=h;rfl
 obtain⟨v,ds,rfl,hd,hp,q⟩:=h;refine⟨_,(Hd (Hf (Hr (LY rfl) rfl B.all_ LR (GU (JI (N':=["ahead","behind"]) (js:=[none,none]) rfl (IV (N:=["parts"]) (outer:=Hg NX) (by decide+kernel)) (VB rfl B.zip_ (GU (pv 0) (GU (Kp RU (pv 0) (Kw G_) Kv) GV))) (λ_ _ _ _ _=>(Ws K rfl (n:=2) rfl (Ix (HA (i:=0) MT rfl (Or.inl rfl)) (Ix (HA (i:=1) MT rfl (Or.inl rfl)) Ku)))) (λ_ _ _ _ _=>J0) (λ_ _ _ _ _=>(J4 Th (Hy (RH K rfl) (pv 0) G_ (λ_ _=>rfl)) (Hy (RH K rfl) (pv 1) G_ (λ_ _=>rfl)) (Hh _)))) GV)))),?_⟩;rw[RepY] at hd;obtain⟨a,xs,rfl,ha,h0,h2⟩:=hd;have lx:=h2.length;refine⟨_,rfl,_,rfl,_,rfl,?_⟩;dsimp only[Sd];refine VZ (SqT.of ha) λp1 H1 s1 q1=>?_;refine⟨a,p1,rfl,⟨_,s1.seqT (SqT.of ha)⟩,⟨_,q1⟩,λp hp'=>?_⟩;have ld:(xs.drop 1).length=ds.length - 1:=by rw[CK,lx]
 refine Vz (n:=ds.length - 1) (xs:=xs) (ys:=xs.drop 1) (by omega) (by rw[ld];exact Ae _) (.inr (by rw[ld];exact Ae _))
  (λi σ' ys H'=>(∃v w,σ'=[v,w])∧Same H1 H'∧H' p=some (.lst ys)∧ys=((AY i).map (λi=>Iu (ds.getD i .non) (ds.getD (i+1) .non))).map V.bl) ⟨⟨none,none,rfl⟩,Hc hp' _,Ha,rfl⟩ ?_ ?_ ?_
 · rintro i σ' zs H' hi ⟨_,s,h1,h3⟩;refine⟨(s1.trans s).seqT (SqT.of ha),s.seqT q1,h1,?_⟩;rw[h3,Ab,Ab,CC];exact Il (by omega)
 · rintro i x y σ' zs H' r N hx hy hr' ⟨⟨v,w',rfl⟩,s,h1,h3⟩ hN;rw[List.getElem?_drop,Nat.add_comm] at hy;obtain⟨d1,e1,r1⟩:=h2.get hx;obtain⟨d2,e2,r2⟩:=h2.get hy;obtain⟨x1,f1⟩:=CI.mp (hp d1 (AA e1));obtain⟨x2,f2⟩:=CI.mp (hp d2 (AA e2));obtain⟨a1,t1,rfl,g1⟩:=OM r1 f1;obtain⟨a2,t2,rfl,g2⟩:=OM r2 f2;have s3:=Hc hr' (.tup [V.ref a1,V.ref a2]);have t3:=(s1.trans s).trans s3;refine⟨r,_,rfl,SqT.of Ha,rfl,_,_,rfl,_,_,rfl,rfl,?_⟩;refine⟨_,rfl,a1,_,0,_,rfl,rfl,SqT.of (t3 _ _ g1),KR,_,rfl,a2,_,0,_,rfl,rfl,SqT.of (t3 _ _ g2),KR,_,_,rfl,rfl,?_⟩;refine⟨s3 _ _ h1,hN _ _ _ ⟨⟨_,_,rfl⟩,Jn (s.trans s3) hp',Ha,?_⟩⟩;rw[h3,List.range_succ,Aj,Aj];congr 1;show [V.bl (decide (x1.cps.toList<x2.cps.toList))]=[V.bl (Iu (ds.getD i .non) (ds.getD (i+1) .non))];rw[Bs,Bs,e1,e2];show _=[V.bl (Iu d1 d2)];rw[RK f1 f2]
 · rintro σ' zs H' ⟨_,s,h1,h3⟩;refine⟨p,_,rfl,SqL.of (by rw[h1,h3]),?_⟩;rw[←N7];exact q H' (s1.trans s)
theorem XV(F:Fun K "is_wish" "is_wish" NQ f fd)(Gp:Γ6 P w K mg base)(Gq:Γ4 P w K mg base):FnOk P w K mg base HH 5 f fd ["thing"] (JM Ng):=by
 refine F.ok Yq (λvs H Q E h=>?_) (λcdv A outer s H vs Q E hr h=>?_)
 · obtain⟨v,d,rfl,hd,q⟩:=h;rfl
 obtain⟨v,d,rfl,hd,q⟩:=h;refine⟨_,(Hb (HD (IM (Iz (Hr (Iy (n:="")) rfl B.isinstance_ HX (GU (pv 0) (GU (HZ (v:= .ty "tuple") rfl B.tuple_ Js rfl) GV))))) (Hd (Hf Iv)) HI)
  (Hd (Hf (Km (Hr (LY rfl) rfl B.all_ LR (GU (JI (N':=["part"]) (js:=[none]) rfl (IV (N:=["thing"]) (outer:=Hg NQ) (by decide+kernel)) (Nj (pv 0)) (λ_ _ _ _ _=>(HA (i:=0) MP rfl (Or.inl rfl))) (λ_ _ _ _ _=>J0) (λ_ _ _ _ _=>(Hm Gq (hr.mono (by decide)) rfl (GU (pv 0) GV)))) GV)) (Jy (Hm Gp (hr.mono (by decide)) rfl (GU (pv 0) GV))))))),?_⟩
 cases d with
 | tup ds=>
  have hd0:=hd;rw[RepY] at hd;obtain⟨a,xs,rfl,ha,h0,h2⟩:=hd;have lx:=h2.length;refine⟨_,rfl,_,"tuple","tuple",true,rfl,.tup ha,rfl,_,rfl,GW ?_⟩;refine⟨_,rfl,a,rfl,⟨_,SqT.of ha⟩,λp hp=>?_⟩;refine Ox (xs:=xs) (λi σ' ys H'=>(∃v,σ'=[v])∧Same H H'∧H' p=some (.lst ys)∧ys=((ds.take i).map JL).map V.bl) ⟨⟨none,rfl⟩,Hc hp _,Ha,rfl⟩ ?_ ?_ ?_
  · rintro i σ' ys H' hi ⟨_,s,h1,h3⟩;refine⟨s.seqT (SqT.of ha),h1,?_⟩;rw[h3,Ab,Ab,AE];exact Il (by omega)
  · rintro i x σ' ys H' N hx ⟨⟨v,rfl⟩,s,h1,h3⟩ hN;obtain⟨d1,e1,r1⟩:=h2.get hx;refine⟨_,rfl,x,d1,rfl,r1.same s,λH2 s2=>?_⟩;refine⟨s2 _ _ h1,hN _ _ _ ⟨⟨_,rfl⟩,Jn (s.trans s2) hp,Ha,?_⟩⟩;rw[h3,Jd e1,Aj,Aj];rfl
  · rintro σ' ys H' ⟨_,s,h1,h3⟩;rw[AJ (by omega)] at h3;refine⟨p,ds.map JL,rfl,SqL.of (by rw[h1,h3]),_,rfl,?_⟩;rw[O7];have qw:Ng (.tup ds)=(ds.all JL && HY ds):=rfl;rw[qw] at q;cases hb:ds.all JL with
    | false=> rw[hb,Ek] at q;exact GW (q _ s)
    | true=> rw[hb,DF] at q;exact GX ⟨_,rfl,.ref a,ds,rfl,hd0.same s,λd1 hd1=>TK (Cs.mp hb d1 hd1),λH2 s2=>q H2 (s.trans s2)⟩
 | _=>exact⟨_,rfl,_,_,"tuple",false,rfl,hd.ty,rfl,_,rfl,GX (q _ (Same.refl _))⟩
theorem YG(F:Fun K "is_piece" "is_piece" NE f fd)(Gp:Γ6 P w K mg base)(Gr:Γ5 P w K mg base):FnOk P w K mg base HH 3 f fd ["thing"] (JM Nk):=by
 refine F.ok Y1 (λvs H Q E h=>?_) (λcdv A outer s H vs Q E hr h=>?_)
 · obtain⟨v,d,rfl,hd,q⟩:=h;rfl
 obtain⟨v,d,rfl,hd,q⟩:=h;refine⟨_,(Hb (HD (IM (Iz (Hr (Iy (n:="")) rfl B.isinstance_ HX (GU (pv 0) (GU (HZ (v:= .ty "tuple") rfl B.tuple_ Js rfl) GV))))) (Hd (Hf Iv)) HI)
  (Hd (Hf (Km (Hr (LY rfl) rfl B.all_ LR (GU (JI (N':=["part"]) (js:=[none]) rfl (IV (N:=["thing"]) (outer:=Hg NE) (by decide+kernel)) (Nj (pv 0)) (λ_ _ _ _ _=>(HA (i:=0) MP rfl (Or.inl rfl))) (λ_ _ _ _ _=>J0) (λ_ _ _ _ _=>(Hm Gr (hr.mono (by decide)) rfl (GU (pv 0) GV)))) GV)) (Jy (Hm Gp (hr.mono (by decide)) rfl (GU (pv 0) GV))))))),?_⟩
 cases d with
 | tup ds=>
  have hd0:=hd;rw[RepY] at hd;obtain⟨a,xs,rfl,ha,h0,h2⟩:=hd;have lx:=h2.length;refine⟨_,rfl,_,"tuple","tuple",true,rfl,.tup ha,rfl,_,rfl,GW ?_⟩;refine⟨_,rfl,a,rfl,⟨_,SqT.of ha⟩,λp hp=>?_⟩;refine Ox (xs:=xs) (λi σ' ys H'=>(∃v,σ'=[v])∧Same H H'∧H' p=some (.lst ys)∧ys=((ds.take i).map JJ).map V.bl) ⟨⟨none,rfl⟩,Hc hp _,Ha,rfl⟩ ?_ ?_ ?_
  · rintro i σ' ys H' hi ⟨_,s,h1,h3⟩;refine⟨s.seqT (SqT.of ha),h1,?_⟩;rw[h3,Ab,Ab,AE];exact Il (by omega)
  · rintro i x σ' ys H' N hx ⟨⟨v,rfl⟩,s,h1,h3⟩ hN;obtain⟨d1,e1,r1⟩:=h2.get hx;refine⟨_,rfl,x,d1,rfl,r1.same s,λH2 s2=>?_⟩;refine⟨s2 _ _ h1,hN _ _ _ ⟨⟨_,rfl⟩,Jn (s.trans s2) hp,Ha,?_⟩⟩;rw[h3,Jd e1,Aj,Aj];rfl
  · rintro σ' ys H' ⟨_,s,h1,h3⟩;rw[AJ (by omega)] at h3;refine⟨p,ds.map JJ,rfl,SqL.of (by rw[h1,h3]),_,rfl,?_⟩;rw[O7];have qw:Nk (.tup ds)=(ds.all JJ && HY ds):=rfl;rw[qw] at q;cases hb:ds.all JJ with
    | false=> rw[hb,Ek] at q;exact GW (q _ s)
    | true=> rw[hb,DF] at q;exact GX ⟨_,rfl,.ref a,ds,rfl,hd0.same s,λd1 hd1=>T9 (Cs.mp hb d1 hd1),λH2 s2=>q H2 (s.trans s2)⟩
 | _=>exact⟨_,rfl,_,_,"tuple",false,rfl,hd.ty,rfl,_,rfl,GX (q _ (Same.refl _))⟩
theorem ZF(F:Fun K "check_written" "check_written" PB f fd)  :FnOk P w K mg base (IQ P w base) 3 f fd ["holds"] (MB cNoText):=by
 refine F.okX Z6 (λvs H Q E h=>?_) (λcdv A outer s H vs Q E hr h=>?_)
 · obtain⟨b,rfl,q1,q2⟩:=h;rfl
 obtain⟨b,rfl,q1,q2⟩:=h;refine⟨_,(Hd (HD (IM (Iz (pv 0))) (Hd (WO Ym rfl Cl.x_NoText rfl Cl.m_NoText F_init b_init (hr.mono (by decide)) (GU Hq GV))) HI)),?_⟩;refine⟨_,rfl,_,rfl,?_⟩;cases b with
 | true=>exact GW (q1 rfl)
 | false=>exact GX ⟨_,rfl,q2 rfl⟩
theorem Zi(F:Fun K "check_text" "check_text" Pr f fd)(Gs:Γ9 P w K mg base cNoText):FnOk P w K mg base (IQ P w base) 4 f fd ["thing"] (QD cNoText):=by
 refine F.okX Z4 (λvs H Q E h=>?_) (λcdv A outer s H vs Q E hr h=>?_)
 · obtain⟨v,d,rfl,hd,q1,q2⟩:=h;rfl
 obtain⟨v,d,rfl,hd,q1,q2⟩:=h;refine⟨_,(Hd (J5 (J7 Gs (hr.mono (by decide)) rfl (GU (Hr (Iy (n:="")) rfl B.isinstance_ HX (GU (pv 0) (GU (HZ (v:= .ty "str") rfl B.str_ KC rfl) GV))) GV)))),?_⟩;cases d with
 | str x=> rw[RepY] at hd;obtain⟨rfl,hx⟩:=hd;exact⟨_,rfl,_,"str","str",true,rfl,.str x,rfl,_,rfl,λ_=>q1 rfl,λz=>by cases z⟩
 | _=>exact⟨_,rfl,_,_,"str",false,rfl,hd.ty,rfl,_,rfl,λz=>(by cases z),λ_=>q2 rfl⟩
theorem YS(F:Fun K "words_in" "words_in" P7 f fd)  :FnOk P w K mg base HH 1 f fd ["text"] (Ri):=by
 refine F.ok Y4 (λvs H Q E h=>?_) (λcdv A outer s H vs Q E hr h=>?_)
 · obtain⟨x,rfl,hl,q⟩:=h;rfl
 obtain⟨x,rfl,hl,q⟩:=h;refine⟨_,(Hd (Hf (Jm (Ho HL (pv 0) Hq (Hh _)) (IC GV) (Iw A5 Co DC OP (pv 0) (GU Hq GV))))),?_⟩;refine⟨_,rfl,rfl,_,rfl,?_⟩;by_cases hx:x=("-":Str)
 · rw[decide_eq_true (show V.str x=V.str ("-":Str) by rw[hx])];refine GX ⟨JO,λp hp=>?_⟩;have:=q p hp;rw[show Hn x=[] from if_pos hx] at this;exact this
 · rw[decide_eq_false (show ¬V.str x=V.str ("-":Str) from λz=>hx (by injection z with z))]
   refine GW ⟨_,rfl,rfl,x,_,rfl,rfl,by decide+kernel,by omega,λp hp=>?_⟩;have:=q p hp;rw[show Hn x=AR x (" ":Str) from if_neg hx] at this;exact this
theorem YE(F:Fun K "count_in" "count_in" NC f fd)(Gs:Γ9 P w K mg base cNoText):FnOk P w K mg base (IQ P w base) 4 f fd ["text","most"] (Sq cNoText):=by
 refine F.okX YV (λvs H Q E h=>?_) (λcdv A outer s H vs Q E hr h=>?_)
 · obtain⟨x,rfl,hl,q1,q2⟩:=h;rfl
 obtain⟨x,rfl,hl,q1,q2⟩:=h;refine⟨_,(Hb (J5 (J7 Gs (hr.mono (by decide)) rfl (GU (Km (OT LH LH G_ (Hr Lp rfl B.len_ I_ (GU (pv 0) GV)) (pv 1)) (Jy (Hr (LY rfl) rfl B.all_ LR (GU (JI (N':=["sign"]) (js:=[none]) rfl (IV (N:=["text","most"]) (outer:=Hg NC) (by decide+kernel)) (Ni (pv 0)) (λ_ _ _ _ _=>(HA (i:=0) K4 rfl (Or.inl rfl))) (λ_ _ _ _ _=>J0) (λ_ _ _ _ _=>(OT NL NL Hq (pv 0) Hq))) GV)))) GV)))
  (Hb (J5 (J7 Gs (hr.mono (by decide)) rfl (GU (K9 (J4 HL (pv 0) Hq (Hh _)) (Jy (J4 JH (Hy LS (pv 0) G_ (λ_ _=>rfl)) Hq (Hh _)))) GV)))
  (Hd (Hf (JE Ta rfl B.int_ Ko (GU (pv 0) GV)))))),?_⟩
 have sl:(L2.signs x).length=x.length:=by unfold L2.signs;rw[Ab,Ar];rfl
 have lx:x.length=(sg x).length:=IG x;refine⟨_,rfl,x,rfl,Ik (by omega),_,_,rfl,rfl,_,rfl,?_⟩;by_cases l1:(1:Int)≤(x.length:Int)
 rotate_left
 · rw[decide_eq_false l1];exact GW ⟨_,rfl,GW ⟨false,rfl,λz=>(by cases z),λ_=>q2 (Np λh=>by have:=h.1;omega) H (Same.refl _)⟩⟩
 rw[decide_eq_true l1];refine GX ⟨_,rfl,_,_,rfl,rfl,_,rfl,?_⟩;by_cases l15:(x.length:Int)≤15
 rotate_left
 · rw[decide_eq_false l15];exact GW ⟨false,rfl,λz=>(by cases z),λ_=>q2 (Np λh=>by have:=h.2.1;omega) H (Same.refl _)⟩
 rw[decide_eq_true l15];refine GX ⟨_,rfl,x,rfl,λp hp=>?_⟩;have s0:=Hc hp (.lst []);refine Nr (xs:=L2.signs x) (λi σ' ys H'=>(∃v,σ'=[v])∧Same H H'∧H' p=some (.lst ys)∧ys=(((sg x).take i).map HB).map V.bl) ⟨⟨none,rfl⟩,s0,Ha,rfl⟩ ?_ ?_ ?_
 · rintro i σ' ys H' hi ⟨_,_,h1,h2⟩;refine⟨h1,?_⟩;rw[h2,Ab,Ab,AE];exact Il (by omega)
 · rintro i y σ' ys H' N hy ⟨⟨v,rfl⟩,s,h1,h2⟩ hN;unfold L2.signs at hy;rw[Ay] at hy;cases hc:x.cps.toList[i]? with
   | none=>rw[hc] at hy;cases hy
   | some c=>
    rw[hc] at hy;obtain rfl:V.str ⟨#[c]⟩=y:=Am hy;have fin:∀b,HB c=b→ys++[V.bl b]=(((sg x).take (i+1)).map HB).map V.bl:=λb e=>by rw[h2,Jd (show(sg x)[i]?=some c from hc),Aj,Aj,Cf,Cf,e]
    refine⟨_,rfl,_,_,rfl,rfl,_,rfl,?_⟩;by_cases c0:48≤c
    · rw[Qx c0];refine GX ⟨_,_,rfl,rfl,?_⟩;by_cases c9:c≤57
      · rw[Qo c9];exact⟨h1,hN _ _ _ ⟨⟨_,rfl⟩,Jn s hp,Ha,fin _ (by unfold HB;rw[decide_eq_true c0,decide_eq_true c9];rfl)⟩⟩
      · rw[Qu (by omega)];exact⟨h1,hN _ _ _ ⟨⟨_,rfl⟩,Jn s hp,Ha,fin _ (by unfold HB;rw[decide_eq_true c0,decide_eq_false c9];rfl)⟩⟩
    · rw[Qm (by omega)];exact GW ⟨h1,hN _ _ _ ⟨⟨_,rfl⟩,Jn s hp,Ha,fin _ (by unfold HB;rw[decide_eq_false c0];rfl)⟩⟩
 · rintro σ' ys H' ⟨_,s,h1,h2⟩;rw[sl,lx,BR] at h2;refine⟨p,(sg x).map HB,rfl,SqL.of (by rw[h1,h2]),?_⟩;have ea:((sg x).map HB).all id=(sg x).all HB:=by rw[List.all_map];rfl
   rw[ea];refine⟨_,rfl,λha=>?_,λha=>q2 (Np λh=>by have:=h.2.2.1;rw[ha] at this;cases this) H' s⟩;have last:(sg x=[48]∨(sg x).head?≠some 48)→M8 (Ma (λxs H Q=>∃x n,xs=[V.str x]∧x.length≤640∧intText? x=some n∧Q (V.int n) H) (Jw (Ia 0) Im)) {nx:=λx H'=>Q V.non H',rt:=Q} [some (V.str x),some (V.int 15)] H':=λh0=>by have ok:LC (sg x):=⟨by omega,by omega,ha,h0⟩;exact⟨_,rfl,x,_,rfl,by omega,PySem.intText_digits (x:=x) (OH ha) (λz=>by have e:=lx;rw[show sg x=[] from z] at e;have:x.length=0:=e;omega) (by omega),q1 _ (U4 ok) _ s⟩
   refine⟨_,rfl,rfl,_,rfl,?_⟩;by_cases hx:x=("0":Str)
   · rw[decide_eq_true (show V.str x=V.str ("0":Str) by rw[hx])];exact GX ⟨true,rfl,λ_=>last (.inl (by rw[hx];exact Ki)),λz=>by cases z⟩
   · rw[decide_eq_false (show ¬V.str x=V.str ("0":Str) from λz=>hx (by injection z with z))]
     cases es:sg x with
     | nil=>rw[es] at lx;exact absurd lx (by simp;omega)
     | cons c r=>
      refine GW ⟨_,rfl,x,_,c,rfl,rfl,Ik (by omega),?_,rfl,?_⟩
      · refine Jh (j:=0) ?_;show(sg x)[0]?=_;rw[es];rfl
      · by_cases hc:c=48
        · subst hc;rw[decide_eq_true (show V.str (⟨#[48]⟩:Str)=V.str ("0":Str) from congrArg V.str (Ka (by rw[Ki];rfl)))];refine⟨false,rfl,λz=>(by cases z),λ_=>q2 (Np λh=>?_) H' s⟩;rcases h.2.2.2 with z | z
          · exact hx (Ka (by rw[z,Ki]))
          · exact z (by rw[es];rfl)
        · rw[decide_eq_false (show ¬V.str (⟨#[c]⟩:Str)=V.str ("0":Str) from λz=>by
           injection z with z
           have:=congrArg sg z;rw[Ki] at this;injection this with h _
           exact hc h)]
          exact⟨true,rfl,λ_=>last (.inr (by rw[es];intro z;exact hc (by injection z))),λz=>by cases z⟩
theorem Zm(F:Fun K "number_in" "number_in" Py f fd)(Gs:Γ9 P w K mg base cNoText)(Gu:Γ12 P w K mg base cNoText):FnOk P w K mg base (IQ P w base) 5 f fd ["text"] (Rf cNoText):=by
 refine F.okX Zq (λvs H Q E h=>?_) (λcdv A outer s H vs Q E hr h=>?_)
 · obtain⟨x,rfl,hl,q1,q2⟩:=h;rfl
 obtain⟨x,rfl,hl,q1,q2⟩:=h;refine⟨_,(Hb (HD (IM (Iz (Iw A5 PySem.F.slot_str_startswith PySem.F.type_str_startswith Zh (pv 0) (GU Hq GV)))) (Hd (Hf (J7 Gu (hr.mono (by decide)) rfl (GU (pv 0) (GU (IB (v:= .int 15) rfl qMF' ⟨_,rfl⟩) GV))))) HI)
  (Hb (J5 (J7 Gs (hr.mono (by decide)) rfl (GU (J4 JH (pv 0) Hq (Hh _)) GV)))
  (Hd (Hf (QK Rm (J7 Gu (hr.mono (by decide)) rfl (GU (Kp So (pv 0) (Kw G_) Kv) (GU (IB (v:= .int 15) rfl qMF' ⟨_,rfl⟩) GV)))))))),?_⟩
 refine⟨_,rfl,rfl,x,_,rfl,rfl,_,rfl,?_⟩;rw[XB];by_cases hn:(sg x).head?=some 45
 · rw[decide_eq_true hn];have hl3:1≤x.length:=by
    rw[IG];cases es:sg x with
    | nil=>rw[es] at hn;cases hn
    | cons c r=>simp
   refine GW ⟨_,rfl,rfl,?_⟩;by_cases hz:x=("-0":Str)
   · rw[decide_eq_true (show V.str x=V.str ("-0":Str) by rw[hz])];exact⟨false,rfl,λz=>(by cases z),λ_=>q2 (by rw[hz,TC];exact V4) H (Same.refl _)⟩
   · rw[decide_eq_false (show ¬V.str x=V.str ("-0":Str) from λz=>hz (by injection z with z))]
     refine⟨true,rfl,λ_=>?_,λz=>by cases z⟩;have en:=Wl hn (λz=>hz (Ka (by rw[z,TC])));refine⟨_,rfl,_,rfl,x,rfl,rfl,rfl,hl3,by omega,λz hz'=>?_⟩;rw[List.drop_one] at hz';refine⟨z,rfl,?_,λm hm H' s=>⟨_,rfl,q1 _ (by rw[en,←hz',hm];rfl) H' s⟩,λhm H' s=>q2 (by rw[en,←hz',hm];rfl) H' s⟩;rw[IG,hz',List.length_tail,←IG];omega
 · rw[decide_eq_false hn];have en:=Wm hn;exact⟨_,rfl,x,rfl,hl,λm hm H' s=>q1 _ (by rw[en,hm];rfl) H' s,λhm H' s=>q2 (by rw[en,hm];rfl) H' s⟩
theorem Xv(F:Fun K "end_in" "end_in" Pd f fd)(Gv:Γ13 P w K mg base cNoText):FnOk P w K mg base (IQ P w base) 6 f fd ["text"] (Rb cNoText):=by
 refine F.okX Yb (λvs H Q E h=>?_) (λcdv A outer s H vs Q E hr h=>?_)
 · obtain⟨x,rfl,hl,q1,q2⟩:=h;rfl
 obtain⟨x,rfl,hl,q1,q2⟩:=h;refine⟨_,(Hd (Hf (Jm (Ho HL (pv 0) Hq (Hh _)) J8 (J7 Gv (hr.mono (by decide)) rfl (GU (pv 0) GV))))),?_⟩;refine⟨_,rfl,rfl,_,rfl,?_⟩;by_cases hx:x=("*":Str)
 · rw[decide_eq_true (show V.str x=V.str ("*":Str) by rw[hx])];exact GX (q1 none (by rw[hx,Mm];rfl) H (Same.refl _))
 · rw[decide_eq_false (show ¬V.str x=V.str ("*":Str) from λz=>hx (by injection z with z))]
   have en:HJ (sg x)=(Ht (sg x)).map some:=if_neg λz=>hx (Ka (by rw[z,Mm]));exact GW ⟨_,rfl,x,rfl,hl,λn hn H' s=>q1 (some n) (by rw[en,hn];rfl) H' s,λhn H' s=>q2 (by rw[en,hn];rfl) H' s⟩
theorem ZD(F:Fun K "wish_part_in" "wish_part_in" P9 f fd)(Gw:Γ14 P w K mg base cNoText):FnOk P w K mg base (IQ P w base) 7 f fd ["text"] (Ny 3 cNoText):=by
 refine F.okX FO (λvs H Q E h=>?_) (λcdv A outer s H vs Q E hr h=>?_)
 · obtain⟨x,rfl,hl,q1,q2⟩:=h;rfl
 obtain⟨x,rfl,hl,q1,q2⟩:=h;refine⟨_,(Hb (JK (Iw A5 Bc Bd KN (pv 0) (GU Hq GV)) (Kn rfl (Ix (HA (i:=1) FO.nd rfl (Or.inl rfl)) (Ix (HA (i:=2) FO.nd rfl (Or.inl rfl)) (Ix (HA (i:=3) FO.nd rfl (Or.inl rfl)) Ku)))))
  (Hb (JK (Iw A5 Bc Bd KN (pv 3) (GU Hq GV)) (Kn rfl (Ix (HA (i:=4) FO.nd rfl (Or.inl rfl)) (Ix (HA (i:=5) FO.nd rfl (Or.inl rfl)) (Ix (HA (i:=6) FO.nd rfl (Or.inl rfl)) Ku)))))
  (Hd (Hf (IU (GU (pv 1) (GU (J7 Gw (hr.mono (by decide)) rfl (GU (pv 4) GV)) (GU (J7 Gw (hr.mono (by decide)) rfl (GU (pv 6) GV)) GV)))))))),?_⟩
 rw[Qv] at q1 q2;refine⟨_,rfl,rfl,x,_,rfl,rfl,by decide+kernel,by omega,λu hu=>?_⟩;have S1:=Hc hu (.tup [V.str (IP x),V.str (Ah x (":":Str)).2.1,V.str (HU x)]);refine⟨u,_,rfl,SqT.of Ha,rfl,_,_,rfl,_,_,rfl,_,_,rfl,rfl,?_⟩;have lt:=LI x;refine⟨_,rfl,rfl,HU x,_,rfl,rfl,by decide+kernel,by omega,λv hv=>?_⟩;have S2:=Hc hv (.tup [V.str (IN x),V.str (Ah (HU x) ("..":Str)).2.1,V.str (IY x)]);refine⟨v,_,rfl,SqT.of Ha,rfl,_,_,rfl,_,_,rfl,_,_,rfl,rfl,?_⟩;have l1:=Rp x;have l2:=QY x;refine⟨_,rfl,_,rfl,IN x,rfl,by omega,λo1 e1 H3 S3=>?_,λe1 H3 S3=>q2 (Rn e1) H3 (S1.trans (S2.trans S3))⟩;refine⟨_,rfl,IY x,rfl,by omega,λo2 e2 H4 S4=>?_,λe2 H4 S4=>q2 (Ro e2) H4 (S1.trans (S2.trans (S3.trans S4)))⟩;have t4:=S1.trans (S2.trans (S3.trans S4));exact⟨Me,λt ht=>q1 _ (RO e1 e2) t _ (t4.trans (Hc ht _)) (OD t4 ht) Ha⟩
theorem ZI(F:Fun K "piece_part_in" "piece_part_in" PH f fd)(Gv:Γ13 P w K mg base cNoText):FnOk P w K mg base (IQ P w base) 6 f fd ["text"] (Ny 2 cNoText):=by
 refine F.okX FP (λvs H Q E h=>?_) (λcdv A outer s H vs Q E hr h=>?_)
 · obtain⟨x,rfl,hl,q1,q2⟩:=h;rfl
 obtain⟨x,rfl,hl,q1,q2⟩:=h;refine⟨_,(Hb (JK (Iw A5 Bc Bd KN (pv 0) (GU Hq GV)) (Kn rfl (Ix (HA (i:=1) FP.nd rfl (Or.inl rfl)) (Ix (HA (i:=2) FP.nd rfl (Or.inl rfl)) (Ix (HA (i:=3) FP.nd rfl (Or.inl rfl)) Ku)))))
  (Hd (Hf (IU (GU (pv 1) (GU (J7 Gv (hr.mono (by decide)) rfl (GU (pv 3) GV)) GV)))))),?_⟩
 rw[Qw] at q1 q2;refine⟨_,rfl,rfl,x,_,rfl,rfl,by decide+kernel,by omega,λu hu=>?_⟩;have S1:=Hc hu (.tup [V.str (IP x),V.str (Ah x (":":Str)).2.1,V.str (HU x)]);refine⟨u,_,rfl,SqT.of Ha,rfl,_,_,rfl,_,_,rfl,_,_,rfl,rfl,?_⟩;have lt:=LI x;refine⟨_,rfl,_,rfl,HU x,rfl,by omega,λn e1 H3 S3=>?_,λe1 H3 S3=>q2 (by unfold Lu;rw[e1];rfl) H3 (S1.trans S3)⟩;have t3:=S1.trans S3;exact⟨Ii,λt ht=>q1 (IP x,[some n]) (by unfold Lu;rw[e1];rfl) t _ (t3.trans (Hc ht _)) (OD t3 ht) Ha⟩
theorem Zn(F:Fun K "read_wish" "read_wish" Ob f fd)(Gx:Γ10 P w K mg base cNoText)(Gs:Γ9 P w K mg base cNoText)(Gy:Γ7 P w K mg base)(Gz:Γ15 P w K mg base cNoText)(G0:Γ11 P w K mg base):FnOk P w K mg base (IQ P w base) 8 f fd ["text"] (Nz 3 cNoText):=by
 refine F.okX FQ (λvs H Q E h=>?_) (λcdv A outer s H vs Q E hr h=>?_)
 · obtain⟨v,d,rfl,hd,hl,q1,q2⟩:=h;rfl
 obtain⟨v,d,rfl,hd,hl,q1,q2⟩:=h;refine⟨_,(Hb (J5 (J7 Gx (hr.mono (by decide)) rfl (GU (pv 0) GV)))
  (Hb (Hz (i:=1) FQ.nd rfl (Or.inl rfl) (JE Ln rfl B.tuple_ Js (GU (Ry R8 (N':=["word"]) (js:=[none]) rfl (IV (N:=["text","wish"]) (outer:=Hg Ob) (by decide+kernel)) (Kg (Hm G0 (hr.mono (by decide)) rfl (GU (pv 0) GV))) (λ_ _ _ _ _=>(HA (i:=0) MO rfl (Or.inl rfl))) (λ_ _ _ _ _=>J0) (λ_ _ _ _ _ _=>(Nt Gz (hr.mono (by decide)) rfl (GU (pv 0) GV)))) GV)))
  (Hb (J5 (J7 Gs (hr.mono (by decide)) rfl (GU (Hm Gy (hr.mono (by decide)) rfl (GU (pv 1) GV)) GV)))
  (Hd (Hf (pv 1)))))),?_⟩
 refine⟨_,rfl,v,d,rfl,hd,λhs=>?_,λhs=>q2 (by cases d<;>first | rfl | cases hs) H (Same.refl _)⟩
 cases d with
 | str x=>
  have hx:=hl x rfl;rw[RepY] at hd;obtain⟨rfl,_⟩:=hd;obtain⟨wl,ww⟩:=N4 x;refine⟨_,rfl,x,rfl,hx,λl hl'=>?_⟩;have sl:=Hc hl' (.lst ((Hn x).map V.str));have el:(GZ H l (.lst ((Hn x).map V.str))) l=some (.lst ((Hn x).map V.str)):=Ha;generalize GZ H l (.lst ((Hn x).map V.str))=Hl at sl el;refine⟨l,rfl,⟨_,SqL.of el⟩,λp hp=>?_⟩;have s0:=Hc hp (.lst []);refine Mp (K:=K) (a:=l) (xs:=(Hn x).map V.str) (λi σ' ys H'=>(∃v,σ'=[v])∧Same Hl H'∧H' p=some (.lst ys)∧∃qs:List (Addr×GP),ys=qs.map (λq=>V.ref q.1)∧IF 3 ((Hn x).take i)=some (qs.map (·.2))∧∀q∈qs,H' q.1=some (.tup (V.str q.2.1::q.2.2.map eV))) ?_ ?_ ?_ ?_
  · exact⟨⟨none,rfl⟩,s0,Ha,[],rfl,rfl,λq hq=>by simp at hq⟩
  · rintro i σ' ys H' hi ⟨_,s,h1,qs,rfl,h2,_⟩;refine⟨SqL.of (s _ _ el),h1,?_⟩;rw[Ab];have:=(NO h2).1;rw[Ab,AE] at this;exact Il (by omega)
  · rintro i y σ' ys H' N hy ⟨⟨v,rfl⟩,s,h1,qs,rfl,h2,h3⟩ hN;rw[Ay] at hy;cases hc:(Hn x)[i]? with
    | none=>rw[hc] at hy;cases hy
    | some t=>
     rw[hc] at hy;obtain rfl:V.str t=y:=Am hy;have hm:t∈Hn x:=AA hc;refine⟨_,rfl,t,rfl,by have:=ww t hm;omega,λz hz u H2 s2 hu eu=>⟨s2 _ _ h1,hN _ _ _ ⟨⟨_,rfl⟩,?_,Ha,qs++[(u,z)],?_,?_,?_⟩⟩,λhz H2 s2=>q2 (Pa hm hz) H2 (sl.trans (s.trans s2))⟩
     · exact Jn (s.trans s2) hp
     · rw[Aj];rfl
     · rw[Aj,Jd hc];exact Pk hz h2
     · intro q hq;have hqp:∀{b:Addr}{o:HO},H2 b=some o→b=p→o= .lst (qs.map λq=>V.ref q.1):=λe z=>by rw[z,s2 _ _ h1] at e;exact(Am e).symm
       rcases A6.mp hq with z' | z'
       · have e:=s2 _ _ (h3 q z');rw[Hk (λz=>by cases hqp e z)];exact e
       · rw[Ai.mp z'];rw[Hk (λz=>by cases hqp eu z)];exact eu
  · rintro σ' ys H' ⟨_,s,h1,qs,rfl,h2,h3⟩;rw[Ab,BR] at h2;have t1:=sl.trans s;refine⟨p,_,rfl,.inl ⟨SqL.of h1,λt ht=>?_⟩⟩;have st:=Hc ht (.tup (qs.map λq=>V.ref q.1));have WA:GAt (GZ H' t (.tup (qs.map λq=>V.ref q.1))) t (qs.map (·.2)):=⟨qs,rfl,Ha,λq hq=>st _ _ (h3 q hq)⟩;have few:=NM hx h2;have er:=N6 h2;rw[US] at er;refine⟨_,rfl,.ref t,JA (qs.map (·.2)),rfl,JW WA few,λH5 s5=>⟨_,rfl,λhm=>?_,λhm=>q2 (er.trans (if_neg (by rw[hm];decide))) H5 (t1.trans (st.trans s5))⟩⟩;exact⟨_,rfl,q1 _ (er.trans (if_pos hm)) t H5 (t1.trans (st.trans s5)) (WA.same s5)⟩
 | _=>cases hs
theorem Zl(F:Fun K "read_piece" "read_piece" NZ f fd)(Gx:Γ10 P w K mg base cNoText)(Gs:Γ9 P w K mg base cNoText)(G1:Γ8 P w K mg base)(G4:Γ16 P w K mg base cNoText)(G0:Γ11 P w K mg base):FnOk P w K mg base (IQ P w base) 7 f fd ["text"] (Nz 2 cNoText):=by
 refine F.okX FR (λvs H Q E h=>?_) (λcdv A outer s H vs Q E hr h=>?_)
 · obtain⟨v,d,rfl,hd,hl,q1,q2⟩:=h;rfl
 obtain⟨v,d,rfl,hd,hl,q1,q2⟩:=h;refine⟨_,(Hb (J5 (J7 Gx (hr.mono (by decide)) rfl (GU (pv 0) GV)))
  (Hb (Hz (i:=1) FR.nd rfl (Or.inl rfl) (JE Ln rfl B.tuple_ Js (GU (Ry R8 (N':=["word"]) (js:=[none]) rfl (IV (N:=["text","piece"]) (outer:=Hg NZ) (by decide+kernel)) (Kg (Hm G0 (hr.mono (by decide)) rfl (GU (pv 0) GV))) (λ_ _ _ _ _=>(HA (i:=0) MO rfl (Or.inl rfl))) (λ_ _ _ _ _=>J0) (λ_ _ _ _ _ _=>(Nt G4 (hr.mono (by decide)) rfl (GU (pv 0) GV)))) GV)))
  (Hb (J5 (J7 Gs (hr.mono (by decide)) rfl (GU (Hm G1 (hr.mono (by decide)) rfl (GU (pv 1) GV)) GV)))
  (Hd (Hf (pv 1)))))),?_⟩
 refine⟨_,rfl,v,d,rfl,hd,λhs=>?_,λhs=>q2 (by cases d<;>first | rfl | cases hs) H (Same.refl _)⟩
 cases d with
 | str x=>
  have hx:=hl x rfl;rw[RepY] at hd;obtain⟨rfl,_⟩:=hd;obtain⟨wl,ww⟩:=N4 x;refine⟨_,rfl,x,rfl,hx,λl hl'=>?_⟩;have sl:=Hc hl' (.lst ((Hn x).map V.str));have el:(GZ H l (.lst ((Hn x).map V.str))) l=some (.lst ((Hn x).map V.str)):=Ha;generalize GZ H l (.lst ((Hn x).map V.str))=Hl at sl el;refine⟨l,rfl,⟨_,SqL.of el⟩,λp hp=>?_⟩;have s0:=Hc hp (.lst []);refine Mp (K:=K) (a:=l) (xs:=(Hn x).map V.str) (λi σ' ys H'=>(∃v,σ'=[v])∧Same Hl H'∧H' p=some (.lst ys)∧∃qs:List (Addr×GP),ys=qs.map (λq=>V.ref q.1)∧IF 2 ((Hn x).take i)=some (qs.map (·.2))∧∀q∈qs,H' q.1=some (.tup (V.str q.2.1::q.2.2.map eV))) ?_ ?_ ?_ ?_
  · exact⟨⟨none,rfl⟩,s0,Ha,[],rfl,rfl,λq hq=>by simp at hq⟩
  · rintro i σ' ys H' hi ⟨_,s,h1,qs,rfl,h2,_⟩;refine⟨SqL.of (s _ _ el),h1,?_⟩;rw[Ab];have:=(NO h2).1;rw[Ab,AE] at this;exact Il (by omega)
  · rintro i y σ' ys H' N hy ⟨⟨v,rfl⟩,s,h1,qs,rfl,h2,h3⟩ hN;rw[Ay] at hy;cases hc:(Hn x)[i]? with
    | none=>rw[hc] at hy;cases hy
    | some t=>
     rw[hc] at hy;obtain rfl:V.str t=y:=Am hy;have hm:t∈Hn x:=AA hc;refine⟨_,rfl,t,rfl,by have:=ww t hm;omega,λz hz u H2 s2 hu eu=>⟨s2 _ _ h1,hN _ _ _ ⟨⟨_,rfl⟩,?_,Ha,qs++[(u,z)],?_,?_,?_⟩⟩,λhz H2 s2=>q2 (Pa hm hz) H2 (sl.trans (s.trans s2))⟩
     · exact Jn (s.trans s2) hp
     · rw[Aj];rfl
     · rw[Aj,Jd hc];exact Pk hz h2
     · intro q hq;have hqp:∀{b:Addr}{o:HO},H2 b=some o→b=p→o= .lst (qs.map λq=>V.ref q.1):=λe z=>by rw[z,s2 _ _ h1] at e;exact(Am e).symm
       rcases A6.mp hq with z' | z'
       · have e:=s2 _ _ (h3 q z');rw[Hk (λz=>by cases hqp e z)];exact e
       · rw[Ai.mp z'];rw[Hk (λz=>by cases hqp eu z)];exact eu
  · rintro σ' ys H' ⟨_,s,h1,qs,rfl,h2,h3⟩;rw[Ab,BR] at h2;have t1:=sl.trans s;refine⟨p,_,rfl,.inl ⟨SqL.of h1,λt ht=>?_⟩⟩;have st:=Hc ht (.tup (qs.map λq=>V.ref q.1));have WA:GAt (GZ H' t (.tup (qs.map λq=>V.ref q.1))) t (qs.map (·.2)):=⟨qs,rfl,Ha,λq hq=>st _ _ (h3 q hq)⟩;have few:=NM hx h2;have er:=N6 h2;rw[UR] at er;refine⟨_,rfl,.ref t,JA (qs.map (·.2)),rfl,JW WA few,λH5 s5=>⟨_,rfl,λhm=>?_,λhm=>q2 (er.trans (if_neg (by rw[hm];decide))) H5 (t1.trans (st.trans s5))⟩⟩;exact⟨_,rfl,q1 _ (er.trans (if_pos hm)) t H5 (t1.trans (st.trans s5)) (WA.same s5)⟩
 | _=>cases hs
theorem XW(F:Fun K "_law_bag" "_law_bag" Mv f fd)  :FnOk P w K mg base HH 1 f fd ["script"] (QC K):=by
 refine F.ok FT (λvs H Q E h=>?_) (λcdv A outer s H vs Q E hr h=>?_)
 · obtain⟨a,ns,rfl,hS,h63,q⟩:=h;rfl
 obtain⟨a,ns,rfl,hS,h63,q⟩:=h;refine⟨_,(Hb (LX (N':=["cell"]) (js:=[none]) (i:=1) FT.nd rfl (Or.inl rfl) rfl (IV (N:=["script","great","lesser","stir","cell"]) (outer:=Hg Mv) (by decide+kernel)) (Kg (Kp RS (pv 0) Kv (Kw G_))) (λ_ _ _ _ _=>(HA (i:=0) MN rfl (Or.inl rfl))) (λ_ _ _ _ _=>Mw (Ho UV (pv 0) (Hi Kf G_ G_) (Hh _))) (λ_ _ _ _ _=>(Hi JU (pv 0) (Hi Kf G_ G_))))
  (Hb (LX (N':=["cell"]) (js:=[none]) (i:=2) FT.nd rfl (Or.inl rfl) rfl (IV (N:=["script","great","lesser","stir","cell"]) (outer:=Hg Mv) (by decide+kernel)) (Kg (Kp RS (pv 0) Kv (Kw G_))) (λ_ _ _ _ _=>(HA (i:=0) MN rfl (Or.inl rfl))) (λ_ _ _ _ _=>Mw (Ho Ld (pv 0) (Hi Kf G_ G_) (Hh _))) (λ_ _ _ _ _=>(Hi Lg (pv 0) (Hi Kf G_ G_))))
  (Hb (Hz (i:=3) FT.nd rfl (Or.inl rfl) G_)
  (Hb (KH BY rfl (Kg (pv 2)) (HA (i:=4) FT.nd rfl (Or.inl rfl)) (Hd (Hz (i:=3) FT.nd rfl (Or.inl rfl) (Hi Lg (Hi Kf (Hi Jq (Hi Jq (pv 3) (pv 4)) G_) G_) G_))))
  (Hd (Hf (IC (GU (pv 1) (GU (Hi Rw (pv 2) (IC (GU G_ GV))) (GU G_ (GU (pv 3) GV))))))))))),?_⟩
 have e18:(10:Int)^(18:Int).toNat=10^18:=by decide
 have cut:Ip (ns.map V.int) none (some 63)=ns.map V.int:=by unfold Ip;rw[show HT.sIx (ns.map V.int).length 0 none=0 from rfl,show HT.sIx (ns.map V.int).length (ns.map V.int).length (some 63)=min 63 (ns.map V.int).length from HT.sIx_nat _ _ 63];rw[List.drop_zero];exact AJ (by rw[Ab];omega)
 refine⟨_,rfl,_,rfl,a,_,rfl,hS,λp1 hp1=>⟨p1,rfl,⟨_,SqL.of Ha⟩,λp hp=>?_⟩⟩;refine R0 (cap:=[]) ns (λn=>n - 10^(18:Int).toNat) (λn=>decide ((10:Int)^(18:Int).toNat≤n)) (by omega) (SqL.of (by rw[Ha,cut])) hp ?_ ?_ ?_ ?_
 · rfl
 · exact λn H' R s r=>⟨_,rfl,_,_,rfl,rfl,Jo (by decide) (by decide),_,_,rfl,rfl,_,rfl,r⟩
 · exact λn H' R s r=>⟨_,rfl,_,_,rfl,rfl,Jo (by decide) (by decide),_,_,rfl,rfl,r⟩
 intro H1 s1 h1;have t1:Same H H1:=(Hc hp1 _).trans s1;have pn1:H p=none:=(Hc hp1 _).free hp;refine⟨_,rfl,_,rfl,a,_,rfl,t1.seq hS,λp2 hp2=>⟨p2,rfl,⟨_,SqL.of Ha⟩,λp' hp'=>?_⟩⟩;refine R0 (cap:=[]) ns (λn=>n%10^(18:Int).toNat) (λn=>decide (n<(10:Int)^(18:Int).toNat)) (by omega) (SqL.of (by rw[Ha,cut])) hp' ?_ ?_ ?_ ?_
 · rfl
 · exact λn H' R s r=>⟨_,rfl,_,_,rfl,rfl,Jo (by decide) (by decide),_,_,rfl,rfl,_,rfl,r⟩
 · exact λn H' R s r=>⟨_,rfl,_,_,rfl,rfl,Jo (by decide) (by decide),_,_,rfl,rfl,(by show(0:Int)<10^(18:Int).toNat;decide),r⟩
 intro H2 s2 h2;have t12:Same H1 H2:=(Hc hp2 _).trans s2;have t2:Same H H2:=t1.trans t12;have g2:=t12 _ _ h1;have lb:∀x∈(ns.filter λn=>decide (n<(10:Int)^(18:Int).toNat)).map (λn=>n%10^(18:Int).toNat),0≤x∧x<10^18:=λx hx=>by obtain⟨y,_,rfl⟩:=A4.mp hx;rw[e18];exact⟨CY _ (by decide),C4 _ (by decide)⟩
 have ll:=C6 (λn=>decide (n<(10:Int)^(18:Int).toNat)) ns;have gg:=C6 (λn=>decide ((10:Int)^(18:Int).toNat≤n)) ns;generalize hls:(ns.filter λn=>decide (n<(10:Int)^(18:Int).toNat)).map (λn=>n%10^(18:Int).toNat)=ls at*;have lz:ls.length≤63:=by rw[←hls,Ab];omega
 have gz:((ns.filter λn=>decide ((10:Int)^(18:Int).toNat≤n)).map λn=>n - 10^(18:Int).toNat).length≤63:=by rw[Ab];omega
 refine⟨_,rfl,p',rfl,⟨_,SqL.of h2⟩,My (K:=K) (a:=p') (xs:=ls.map V.int) (λi σ H'=>∃(st:Int)(x4:Option V),σ=[some (.ref a),some (.ref p),some (.ref p'),some (.int st),x4]∧H'=H2∧0≤st∧st<K7) ⟨5,none,rfl,rfl,by decide,by decide⟩ (λi σ H' _ ⟨_,_,_,e,_⟩=>by rw[e];exact SqL.of h2) ?_ ?_⟩
 · rintro i x σ H' hx ⟨st,x4,rfl,rfl,z0,z1⟩;rw[Ay] at hx;cases hn:ls[i]? with
   | none=>rw[hn] at hx;cases hx
   | some y=>
    rw[hn] at hx;obtain rfl:V.int y=x:=Am hx;obtain⟨y0,y1⟩:=lb y (AA hn);have big:(st+y+1).natAbs<2^1000:=by
     have:(st+y+1).natAbs<2^100:=by unfold K7 at z1;omega
     exact Av this (by decide)
    refine⟨_,rfl,_,rfl,_,_,rfl,rfl,_,_,rfl,rfl,_,_,rfl,rfl,⟨by decide,by decide,big⟩,_,_,rfl,rfl,(by show(0:Int)<618970019642690137449562111;decide),_,_,rfl,rfl,CY _ (by decide),C4 _ (by decide)⟩
 · rintro σ H' ⟨st,x4,rfl,rfl,z0,z1⟩;refine⟨_,rfl,_,rfl,Om,λp3 hp3=>?_⟩;have s3:=Hc hp3 (.lst [V.int 0]);refine⟨p',p3,_,_,rfl,rfl,s3 _ _ h2,Ha,(by rw[Ab,DM];exact Ik (by omega)),λp4 hp4=>?_⟩;have s4:=Hc hp4 (.lst (ls.map V.int++[V.int 0]));refine⟨_,rfl,Ur,λp5 hp5=>?_⟩;have s5:=Hc hp5 (.lst [V.ref p,V.ref p4,V.int 0,V.int st]);have t5:Same H' _:=s3.trans (s4.trans s5);have n4:H' p4=none:=s3.free hp4;refine q p5 p p4 _ ⟨⟨_,ls++[0],0,st,Ha,t5 _ _ g2,?_,gz,by simp,by rw[A3];simp;omega,?_,by decide,by decide,z0,z1⟩,?_⟩ (t2.trans t5) (t2.free ((s3.trans s4).free hp5)) pn1
   · refine s5 _ _ ?_;rw[Ha,Aj];rfl
   · intro x hx;rcases A6.mp hx with z | z
     · exact lb x z
     · rw[Ai.mp z];exact⟨by decide,by decide⟩
   · exact IE g2 n4
theorem YJ(F:Fun K "_law_draw" "_law_draw" P0 f fd)  :FnOk P w K mg base HH 1 f fd ["bag","many"] (Ra):=by
 refine F.ok FU (λvs H Q E h=>?_) (λcdv A outer s H vs Q E hr h=>?_)
 · obtain⟨b,g,l,n,many,rfl,Bg,hn,hm,hm2,q⟩:=h;rfl
 obtain⟨b,g,l,n,many,rfl,Bg,hn,hm,hm2,q⟩:=h;refine⟨_,(Hb (WQ BY (PW.pt (KI (Ho (Rx (KM hr)) (Hy Ig (pv 0) G_ (λ_ _=>rfl)) (IC GV) (Hh _)) (KJ (Ho HL (Hy Ig (Hy Ig (pv 0) G_ (λ_ _=>rfl)) G_ (λ_ _=>rfl)) G_ (Hh _))))) (Hd (J5 (Iw BX F5 F6 SM (Hy Ig (pv 0) G_ (λ_ _=>rfl)) (GU G_ GV)))))
  (Hb (HD (Ho (Rx (KM hr)) (Hy Ig (pv 0) G_ (λ_ _=>rfl)) (IC GV) (Hh _)) (Hb (Hz (i:=2) FU.nd rfl (Or.inl rfl) (Hi Lg (Hy Ig (Hy Ig (pv 0) G_ (λ_ _=>rfl)) G_ (λ_ _=>rfl)) (pv 1)))
  (Hb (JK (Hi SU (Hy Ig (Hy Ig (pv 0) G_ (λ_ _=>rfl)) G_ (λ_ _=>rfl)) (pv 1)) (Nh (Hy Ig (pv 0) G_ (λ_ _=>rfl)) G_ N9))
  (Hd (Hf (pv 2))))) HI)
  (Hb (JK (Hi Jq (Hy Ig (pv 0) G_ (λ_ _=>rfl)) G_) (Nh (pv 0) G_ N9))
  (Hb (Hz (i:=3) FU.nd rfl (Or.inl rfl) (Hy Ig (Hy Ig (pv 0) G_ (λ_ _=>rfl)) (Hi Lg (Hy Ig (pv 0) G_ (λ_ _=>rfl)) (Hr JN rfl B.len_ I_ (GU (Hy Ig (pv 0) G_ (λ_ _=>rfl)) GV))) (λ_ _=>rfl)))
  (Hb (JK (Hi Lg (Hi Kf (Hi Jq (Hy Ig (pv 0) G_ (λ_ _=>rfl)) (Hi LK (Hi Jq (pv 3) (Hi LK G_ (Hy Ig (pv 0) G_ (λ_ _=>rfl)))) (Hi Jq (Hi LK G_ (Hy Ig (pv 0) G_ (λ_ _=>rfl))) G_))) G_) G_) (Nh (pv 0) G_ N9))
  (Hd (Hf (Hi Lg (Hi SU (Hy Ig (pv 0) G_ (λ_ _=>rfl)) G_) (pv 1))))))))),?_⟩
 refine Yw (λm σ H1=>σ=[some (.ref b),some (.int many),none,none]∧Bag H1 b g l n∧SameB b g H H1∧∃gs:List Int,H1 g=some (.lst (gs.map V.int))∧gs.length=m)
  (λσ H1=>σ=[some (.ref b),some (.int many),none,none]∧Bag H1 b g l n∧SameB b g H H1) ?_ ?_ ?_
 · obtain⟨gs,ls,c,st,e1,e2,_⟩:=Bg.ex;exact⟨_,rfl,Bg,SameB.refl _ _ _,gs,e2,rfl⟩
 · rintro m σ H1 Z ⟨rfl,B1,S1,gs,e2,rfl⟩ hZ;obtain⟨gs',ls,c,st,e1,e2',e3,z1,z2,z3,z4,z5,z6,z7,z8⟩:=id B1.ex;obtain rfl:gs=gs':=by
    rw[e2] at e2';injection e2' with e2'
    injection e2' with e2'
    exact(List.map_inj_right (λ_ _ z=>by injection z)).mp e2'
   refine⟨_,rfl,b,_,0,_,rfl,rfl,SqL.of e1,rfl,JO,λp hp=>?_⟩;have s1:=Hc hp (.lst []);refine QH (SqL.of (s1 _ _ e2)) (SqL.of Ha) ⟨_,rfl,?_⟩;cases gs with
   | nil=>exact GW (GW (hZ _ _ ⟨rfl,B1.same s1,S1.trans s1.sameB⟩))
   | cons x r=>
    refine GX ?_;refine⟨_,rfl,b,_,0,_,rfl,rfl,SqL.of (s1 _ _ e1),rfl,g,_,0,_,rfl,rfl,SqL.of (s1 _ _ e2),KR,rfl,_,rfl,?_⟩;refine Hx (λhx=>?_) (λhx=>?_)
    · refine⟨λσ H2=>σ=[some (.ref b),some (.int many),none,none]∧Bag H2 b g l n∧SameB b g H H2∧∃gs:List Int,H2 g=some (.lst (gs.map V.int))∧gs.length=r.length,λσ H2 z=>⟨r.length,BS _,z⟩,?_⟩;refine⟨_,rfl,b,_,0,_,rfl,rfl,SqL.of (s1 _ _ e1),rfl,.inl ⟨rfl,_,SqL.of (s1 _ _ e2)⟩,g,_,0,0,_,rfl,rfl,s1 _ _ e2,by decide,by decide,(Mo (Ui (x:=V.int x) (r:=r.map V.int))).1,rfl,?_⟩;have e4:(GZ (GZ H1 p (.lst [])) g (.lst (((x::r).map V.int).eraseIdx 0))) g=some (.lst (r.map V.int)):=Ha;refine⟨rfl,⟨⟨r,ls,c,st,?_,e4,?_,?_,z2,z3,z4,z5,z6,z7,z8⟩,B1.gl⟩,?_,r,e4,rfl⟩
      · rw[Hk B1.bg];exact s1 _ _ e1
      · rw[Hk (By B1.gl)];exact s1 _ _ e3
      · simp only[Ax] at z1;omega
      · intro a o h1 h2 h3;rw[Hk h3];exact s1 _ _ (S1 a o h1 h2 h3)
    · exact hZ _ _ ⟨rfl,B1.same s1,S1.trans s1.sameB⟩
 · rintro σ H1 ⟨rfl,B1,S1⟩;obtain⟨gs,ls,c,st,e1,e2,e3,z1,z2,z3,z4,z5,z6,z7,z8⟩:=id B1.ex;refine⟨_,rfl,b,_,0,_,rfl,rfl,SqL.of e1,rfl,JO,λp hp=>?_⟩;have s1:=Hc hp (.lst []);have B2:=B1.same s1;have e1':=s1 _ _ e1;have e2':=s1 _ _ e2;have e3':=s1 _ _ e3;refine QH (SqL.of e2') (SqL.of Ha) ⟨_,rfl,?_⟩;generalize GZ H1 p (.lst [])=H2 at*;have S2:SameB b g H H2:=S1.trans s1.sameB;clear s1;cases gs with
   | cons x r=>
    refine GX ?_;refine⟨_,rfl,b,_,0,_,rfl,rfl,SqL.of e1',rfl,g,_,0,_,rfl,rfl,SqL.of e2',KR,_,rfl,_,_,rfl,rfl,hm,?_⟩;refine⟨_,rfl,b,_,0,_,rfl,rfl,SqL.of e1',rfl,g,_,0,_,rfl,rfl,SqL.of e2',KR,_,rfl,_,_,rfl,rfl,⟨hm,Int.lt_of_lt_of_le hm2 (by decide)⟩,?_⟩;refine⟨_,rfl,b,_,0,_,rfl,rfl,SqL.of e1',rfl,g,_,0,0,rfl,rfl,e2',Ui,?_⟩;refine⟨_,rfl,?_⟩;refine q _ _ (CY _ (by omega)) (C4 _ hm) ⟨⟨x / many::r,ls,c,st,?_,?_,?_,z1,z2,z3,z4,z5,by omega,z7,z8⟩,B1.gl⟩ ?_
    · rw[Hk B1.bg];exact e1'
    · exact Ha
    · rw[Hk (By B1.gl)];exact e3'
    · intro a o h1 h2 h3;rw[Hk h3];exact S2 a o h1 h2 h3
   | nil=>
    refine GW ?_;refine⟨_,rfl,b,_,2,_,rfl,rfl,SqL.of e1',rfl,_,_,rfl,rfl,_,rfl,b,_,2,2,rfl,rfl,e1',rfl,?_⟩;have f1:(GZ H2 b (.lst ([V.ref g,V.ref l,V.int c,V.int st].set 2 (V.int (c+1))))) b=some (.lst [V.ref g,V.ref l,V.int (c+1),V.int st]):=Ha;have f2:(GZ H2 b (.lst ([V.ref g,V.ref l,V.int c,V.int st].set 2 (V.int (c+1))))) g=some (.lst []):=by rw[Hk (By B1.bg)];exact e2'
    have f3:(GZ H2 b (.lst ([V.ref g,V.ref l,V.int c,V.int st].set 2 (V.int (c+1))))) l=some (.lst (ls.map V.int)):=by rw[Hk (By B1.bl)];exact e3'
    have S3:SameB b g H (GZ H2 b (.lst ([V.ref g,V.ref l,V.int c,V.int st].set 2 (V.int (c+1))))):=λa o h1 h2 h3=>by rw[Hk h2];exact S2 a o h1 h2 h3
    generalize GZ H2 b (.lst ([V.ref g,V.ref l,V.int c,V.int st].set 2 (V.int (c+1))))=H3 at*;have lpos:(0:Int)<((ls.map V.int).length:Int):=by rw[Ab];omega
    have i0:=CY (c+1) (Int.ne_of_gt lpos);have i1:=C4 (c+1) lpos;obtain⟨v,hv,hvm⟩:=U0 (ls:=ls) i0 (by rw[Ab] at i1 ⊢;exact i1);obtain⟨v0,v1⟩:=z4 v hvm;refine⟨_,rfl,b,_,1,_,rfl,rfl,SqL.of f1,rfl,_,rfl,b,_,2,_,rfl,rfl,SqL.of f1,rfl,_,rfl,b,_,1,_,rfl,rfl,SqL.of f1,rfl,l,_,rfl,.inl (SqL.of f3),_,_,rfl,rfl,lpos,l,_,_,_,rfl,rfl,SqL.of f3,hv,?_⟩;have c1:0≤c+1:=by omega
    have c2:c+1≤2^41:=by omega
    refine⟨_,rfl,b,_,3,_,rfl,rfl,SqL.of f1,rfl,_,rfl,_,rfl,b,_,2,_,rfl,rfl,SqL.of f1,rfl,_,_,rfl,rfl,.inl ⟨by decide,by decide⟩,_,_,rfl,rfl,_,rfl,b,_,2,_,rfl,rfl,SqL.of f1,rfl,_,_,rfl,rfl,.inl ⟨by decide,by decide⟩,_,_,rfl,rfl,_,_,rfl,rfl,.inr ⟨by omega,by omega⟩,_,_,rfl,rfl,?_⟩;have big:(st+(v+3*(c+1))*(2*(c+1)+1)).natAbs<2^1000:=by
     have a1:0≤v+3*(c+1):=by omega
     have a2:v+3*(c+1)≤2^61:=by omega
     have a3:0≤2*(c+1)+1:=by omega
     have a4:2*(c+1)+1≤2^43:=by omega
     have a5:(v+3*(c+1))*(2*(c+1)+1)≤2^61*2^43:=Ft a2 a4 a3 (by decide);have a6:0≤(v+3*(c+1))*(2*(c+1)+1):=Fu a1 a3;generalize(v+3*(c+1))*(2*(c+1)+1)=y at*;have a7:st+y<2^105:=by unfold K7 at z8;omega
     have a8:(st+y).natAbs<2^105:=by omega
     exact Av a8 (by decide)
    refine⟨_,_,rfl,rfl,⟨by decide,by decide,big⟩,_,_,rfl,rfl,(by show(0:Int)<618970019642690137449562111;decide),?_⟩;dsimp only;generalize(st+(v+3*(c+1))*(2*(c+1)+1))^(7:Int).toNat=y;refine⟨_,rfl,b,_,3,3,rfl,rfl,f1,rfl,?_⟩;dsimp only;have y0:=CY y (show(618970019642690137449562111:Int)≠0 by decide);have y1:=C4 y (show(0:Int)<618970019642690137449562111 by decide);generalize y%618970019642690137449562111=u at*;have k1:(GZ H3 b (.lst ([V.ref g,V.ref l,V.int (c+1),V.int st].set 3 (V.int u)))) b=some (.lst [V.ref g,V.ref l,V.int (c+1),V.int u]):=Ha;refine⟨_,rfl,b,_,3,_,rfl,rfl,SqL.of k1,rfl,_,_,rfl,rfl,⟨by decide,by decide⟩,_,rfl,_,_,rfl,rfl,hm,?_⟩;refine q _ _ (CY _ (by omega)) (C4 _ hm) ⟨⟨[],ls,c+1,u,k1,?_,?_,z1,z2,z3,z4,c1,by omega,y0,y1⟩,B1.gl⟩ ?_
    · rw[Hk (By B1.bg)];exact f2
    · rw[Hk (By B1.bl)];exact f3
    · intro a o h1 h2 h3;rw[Hk h2];exact S3 a o h1 h2 h3
theorem Zk(F:Fun K "_law_number" "_law_number" Ps f fd)(G5:Γ20 P w K mg base):FnOk P w K mg base HH 2 f fd ["bag"] (Ss):=by
 refine F.ok FV (λvs H Q E h=>?_) (λcdv A outer s H vs Q E hr h=>?_)
 · obtain⟨b,g,l,n,rfl,Bg,hn,q⟩:=h;rfl
 obtain⟨b,g,l,n,rfl,Bg,hn,q⟩:=h;refine⟨_,(Hb (Hz (i:=1) FV.nd rfl (Or.inl rfl) (Hm G5 (hr.mono (by decide)) rfl (GU (pv 0) (GU G_ GV))))
  (Hb (HD (Ho HL (pv 1) G_ (Hh _)) (Hd (Hf (Hi JU (Hm G5 (hr.mono (by decide)) rfl (GU (pv 0) (GU G_ GV))) G_))) HI)
  (Hb (HD (Ho HL (pv 1) G_ (Hh _)) (Hd (Hf (Hi JU (Hm G5 (hr.mono (by decide)) rfl (GU (pv 0) (GU G_ GV))) G_))) HI)
  (Hb (HD (Ho HL (pv 1) G_ (Hh _)) (Hd (Hf (Hi LK (Hy Ig (IC (GU G_ (GU (QK Rm G_) GV))) (Hm G5 (hr.mono (by decide)) rfl (GU (pv 0) (GU G_ GV))) (λ_ _=>rfl)) (Hi JU (Hi JU (Hi Kf G_ G_) G_) (Hm G5 (hr.mono (by decide)) rfl (GU (pv 0) (GU G_ GV))))))) HI)
  (Hb (Hz (i:=2) FV.nd rfl (Or.inl rfl) (Hm G5 (hr.mono (by decide)) rfl (GU (pv 0) (GU (Hi Kf G_ G_) GV))))
  (Hd (Hf (Jm (Ho HL (pv 1) G_ (Hh _)) (pv 2) (Hi JU G_ (pv 2)))))))))),?_⟩
 refine⟨_,rfl,b,g,l,n,5,rfl,Bg,by omega,by decide,by decide,λc H1 c0 c1 B1 S1=>?_⟩;refine⟨_,rfl,rfl,_,rfl,Hx (λ_=>?_) (λ_=>?_)⟩
 · exact⟨_,rfl,b,g,l,_,9,rfl,B1,by omega,by decide,by decide,λr H2 r0 r1 B2 S2=>⟨_,_,rfl,rfl,q _ _ (by show -1000000000000000<r - 4;omega) (by show r - 4<1000000000000000;omega) (B2.mono (by omega)) (S1.trans S2)⟩⟩
 refine⟨_,rfl,rfl,_,rfl,Hx (λ_=>?_) (λ_=>?_)⟩
 · exact⟨_,rfl,b,g,l,_,2000,rfl,B1,by omega,by decide,by decide,λr H2 r0 r1 B2 S2=>⟨_,_,rfl,rfl,q _ _ (by show -1000000000000000<r - 1000;omega) (by show r - 1000<1000000000000000;omega) (B2.mono (by omega)) (S1.trans S2)⟩⟩
 refine⟨_,rfl,rfl,_,rfl,Hx (λ_=>?_) (λ_=>?_)⟩
 · refine⟨_,rfl,Ii,λp hp=>?_⟩;have s1:=Hc hp (.lst [V.int 1,V.int (-1)]);obtain⟨pb,pg,_⟩:=B1.free hp;refine⟨_,rfl,b,g,l,_,2,rfl,B1.same s1,by omega,by decide,by decide,λr H2 r0 r1 B2 S2=>?_⟩;have hr':r=0∨r=1:=by omega
   obtain⟨v,hv,v0,v1⟩:∃v,Ir [V.int 1,V.int (-1)] r=some (.int v)∧ -1≤v∧v≤1∧(v=1∨v= -1):=by
    rcases hr' with rfl | rfl
    · exact⟨1,rfl,by decide,by decide,.inl rfl⟩
    · exact⟨-1,rfl,by decide,by decide,.inr rfl⟩
   refine⟨p,_,_,_,rfl,rfl,SqL.of (S2 p _ Ha pb pg),hv,_,_,rfl,rfl,Jo (by decide) (by decide),_,_,rfl,rfl,_,rfl,b,g,l,_,3,rfl,B2,by omega,by decide,by decide,λr3 H3 r30 r31 B3 S3=>?_⟩;refine⟨_,_,rfl,rfl,_,_,rfl,rfl,.inl ⟨by omega,by omega⟩,q _ _ ?_ ?_ (B3.mono (by omega)) ((S1.trans (s1.sameB.trans S2)).trans S3)⟩
   all_goals
    rw[Q0];rcases v1.2 with rfl | rfl
    all_goals (unfold Ie;omega)
 refine⟨_,rfl,_,_,rfl,rfl,Jo (by decide) (by decide),b,g,l,_,_,rfl,B1,by omega,by decide,by decide,λr H2 r0 r1 B2 S2=>?_⟩;have r1:r<Ie:=by rw[←Q0];exact r1
 refine⟨_,rfl,rfl,_,rfl,Hx (λ_=>⟨_,rfl,q _ _ (by unfold Ie;omega) r1 (B2.mono (by omega)) (S1.trans S2)⟩) (λ_=>⟨_,rfl,_,_,rfl,rfl,q _ _ (by unfold Ie at*;omega) (by unfold Ie at*;omega) (B2.mono (by omega)) (S1.trans S2)⟩)⟩
theorem YK(F:Fun K "_law_held" "_law_held" P2 f fd)  :FnOk P w K mg base HH 1 f fd ["number"] (Rc):=by
 refine F.ok Y3 (λvs H Q E h=>?_) (λcdv A outer s H vs Q E hr h=>?_)
 · obtain⟨i,rfl,q⟩:=h;rfl
 obtain⟨i,rfl,q⟩:=h;refine⟨_,(Hd (Hf (Hr (Tc rfl) rfl B.max_ QR (GU (Hi JU G_ (Hi Kf G_ G_)) (GU (Hr (Td rfl) rfl B.min_ QS (GU (Hi JU (Hi Kf G_ G_) G_) (GU (pv 0) GV))) GV))))),?_⟩;exact⟨_,_,rfl,rfl,Jo (by decide) (by decide),_,_,rfl,rfl,_,_,rfl,rfl,Jo (by decide) (by decide),_,_,rfl,rfl,_,rfl,_,_,rfl,_,_,rfl,q⟩
theorem YQ(F:Fun K "_law_span" "_law_span" P5 f fd)(G5:Γ20 P w K mg base)(G6:Γ21 P w K mg base)(G7:Γ22 P w K mg base):FnOk P w K mg base HH 3 f fd ["bag"] (Rg):=by
 refine F.ok FW (λvs H Q E h=>?_) (λcdv A outer s H vs Q E hr h=>?_)
 · obtain⟨b,g,l,n,rfl,Bg,hn,q⟩:=h;rfl
 obtain⟨b,g,l,n,rfl,Bg,hn,q⟩:=h;refine⟨_,(Hb (Hz (i:=1) FW.nd rfl (Or.inl rfl) (Hm G5 (hr.mono (by decide)) rfl (GU (pv 0) (GU G_ GV))))
  (Hb (Hz (i:=2) FW.nd rfl (Or.inl rfl) (Hm G6 (hr.mono (by decide)) rfl (GU (pv 0) GV)))
  (Hb (HD (Ho HL (pv 1) G_ (Hh _)) (Hd (Hf (IU (GU J8 (GU J8 GV))))) HI)
  (Hb (HD (Ho HL (pv 1) G_ (Hh _)) (Hd (Hf (IU (GU J8 (GU (pv 2) GV))))) HI)
  (Hb (HD (Ho HL (pv 1) G_ (Hh _)) (Hd (Hf (IU (GU (pv 2) (GU J8 GV))))) HI)
  (Hb (HD (Ho HL (pv 1) G_ (Hh _)) (Hd (Hf (IU (GU (pv 2) (GU (pv 2) GV))))) HI)
  (Hb (HD (Ho Ld (pv 1) G_ (Hh _)) (Hd (Hf (IU (GU (pv 2) (GU (Hm G7 (hr.mono (by decide)) rfl (GU (Hi Jq (Hi Jq (pv 2) G_) (Hm G5 (hr.mono (by decide)) rfl (GU (pv 0) (GU G_ GV)))) GV)) GV))))) HI)
  (Hb (Hz (i:=3) FW.nd rfl (Or.inl rfl) (Hm G6 (hr.mono (by decide)) rfl (GU (pv 0) GV)))
  (Hd (Hf (IU (GU (Hr (Td rfl) rfl B.min_ QS (GU (pv 2) (GU (pv 3) GV))) (GU (Hr (Tc rfl) rfl B.max_ QR (GU (pv 2) (GU (pv 3) GV))) GV))))))))))))),?_⟩
 have fin:∀(lo hi:Option Int)(H2:Hp),Bag H2 b g l (n+8)→SameB b g H H2→Good lo hi→∀t,H2 t=none→Q (.ref t) (GZ H2 t (.tup [eV lo,eV hi])):=λlo hi H2 B2 S2 G2 t ht=> q _ lo hi _ ⟨t,rfl,Ha⟩ G2 (B2.same (Hc ht _)) (S2.trans (Hc ht _).sameB);have none_in:Oe none:=λi z=>by cases z
 refine⟨_,rfl,b,g,l,n,7,rfl,Bg,by omega,by decide,by decide,λc H1 c0 c1 B1 S1=>?_⟩;refine⟨_,rfl,b,g,l,_,rfl,B1,by omega,λx H2 x0 x1 B2 S2=>?_⟩;have S3:=S1.trans S2;have B3:Bag H2 b g l (n+8):=B2.mono (by omega);have x_in:Oe (some x):=λi z=>by injection z with z;subst z;exact⟨x0,x1⟩
 refine⟨_,rfl,rfl,_,rfl,Hx (λ_=>⟨Ii,fin none none _ B3 S3 ⟨rfl,none_in,none_in⟩⟩) (λ_=>?_)⟩;refine⟨_,rfl,rfl,_,rfl,Hx (λ_=>⟨_,rfl,Ii,fin none (some x) _ B3 S3 ⟨rfl,none_in,x_in⟩⟩) (λ_=>?_)⟩;refine⟨_,rfl,rfl,_,rfl,Hx (λ_=>⟨_,rfl,Ii,fin (some x) none _ B3 S3 ⟨rfl,x_in,none_in⟩⟩) (λ_=>?_)⟩;refine⟨_,rfl,rfl,_,rfl,Hx (λ_=>⟨_,rfl,_,rfl,Ii,fin (some x) (some x) _ B3 S3 ⟨decide_eq_true (Int.le_refl x),x_in,x_in⟩⟩) (λ_=>?_)⟩;refine⟨_,rfl,_,_,rfl,rfl,_,rfl,Hx (λ_=>?_) (λ_=>?_)⟩
 · refine⟨_,rfl,_,rfl,_,_,rfl,rfl,_,rfl,b,g,l,_,12,rfl,B2,by omega,by decide,by decide,λr H4 r0 r1 B4 S4=>?_⟩;refine⟨_,_,rfl,rfl,_,rfl,Ii,?_⟩;have hh:=Xh (x+1+r);refine fin (some x) (some (LG (x+1+r))) _ (B4.mono (by omega)) (S3.trans S4) ⟨decide_eq_true ?_,x_in,λi z=>?_⟩
   · unfold Ie at*;omega
   · injection z with z;subst z;unfold Ie at*;omega
 · refine⟨_,rfl,b,g,l,_,rfl,B2,by omega,λy H4 y0 y1 B4 S4=>?_⟩;refine⟨_,rfl,_,rfl,_,_,rfl,_,rfl,_,rfl,_,_,rfl,Ii,?_⟩;refine fin (some (if y<x then y else x)) (some (if y>x then y else x)) _ (B4.mono (by omega)) (S3.trans S4) ⟨decide_eq_true ?_,λi z=>?_,λi z=>?_⟩
   · split<;>split<;>omega
   · injection z with z;subst z;split<;>omega
   · injection z with z;subst z;split<;>omega
theorem Zw(F:Fun K "_law_whole" "_law_whole" Px f fd)  :FnOk P w K mg base HH 1 f fd ["found"] (N1 K):=by
 refine F.ok Zp (λvs H Q E h=>?_) (λcdv A outer s H vs Q E hr h=>?_)
 · obtain⟨v,t,rfl,hty,q⟩:=h;rfl
 obtain⟨v,t,rfl,hty,q⟩:=h;refine⟨_,(Hd (Hf (Km (Hr (Iy (n:="")) rfl B.isinstance_ HX (GU (pv 0) (GU (HZ (v:= .ty "int") rfl B.int_ Ko rfl) GV))) (Jy (QZ (Hr (Iy (n:="")) rfl B.isinstance_ HX (GU (pv 0) (GU (HZ (v:= .ty "bool") rfl B.bool_ Nu rfl) GV)))))))),?_⟩;cases hty
 all_goals first
  | exact⟨_,rfl,_,"int","int",true,rfl,.int _,rfl,_,rfl,GX ⟨_,rfl,_,"int","bool",false,rfl,.int _,rfl,_,rfl,q⟩⟩
  | exact⟨_,rfl,_,"bool","int",true,rfl,.bl _,rfl,_,rfl,GX ⟨_,rfl,_,"bool","bool",true,rfl,.bl _,rfl,_,rfl,q⟩⟩
  | exact⟨_,rfl,_,_,"int",false,rfl,(by first | exact .non | exact .str _ | exact .flt _ | (exact .lst (by assumption)) | (exact .frz (by assumption)) | (exact .tup (by assumption)) | (exact .dK (by assumption)) | (exact .dT (by assumption))),rfl,_,rfl,GW q⟩
theorem Zt(F:Fun K "_law_field" "_law_field" M4 f fd)(G5:Γ20 P w K mg base):FnOk P w K mg base HH 2 f fd ["bag"] (TF):=by
 refine F.ok FX (λvs H Q E h=>?_) (λcdv A outer s H vs Q E hr h=>?_)
 · obtain⟨b,g,l,n,rfl,Bg,hn,q⟩:=h;rfl
 obtain⟨b,g,l,n,rfl,Bg,hn,q⟩:=h;refine⟨_,(Hb (Hz (i:=1) FX.nd rfl (Or.inl rfl) (Hm G5 (hr.mono (by decide)) rfl (GU (pv 0) (GU G_ GV))))
  (Hb (Hz (i:=2) FX.nd rfl (Or.inr rfl) Hq)
  (Hb (HD (Ho HL (pv 1) G_ (Hh _)) (Hd (Hf (Iw A5 C7 C8 Mr Hq (GU (JI (N':=["k","bag","some"]) (js:=[none,some 0,some 2]) rfl (IV (N:=["bag","choice","some"]) (outer:=Hg M4) (by decide+kernel)) (Kq rfl B.range_ (GU (Hi Jq G_ (Hm G5 (hr.mono (by decide)) rfl (GU (pv 0) (GU G_ GV)))) GV)) (λ_ _ _ _ _=>(HA (i:=0) MM rfl (Or.inl rfl))) (λ_ _ _ _ _=>J0) (λ_ _ _ _ _=>(Hy LS (pv 2) (Hm G5 (hr.mono (by decide)) rfl (GU (pv 1) (GU G_ GV))) (λ_ _=>rfl)))) GV)))) HI)
  (Hd (Hf (Iw A5 C7 C8 Mr Hq (GU (JI (N':=["k","bag","some"]) (js:=[none,some 0,some 2]) rfl (IV (N:=["bag","choice","some"]) (outer:=Hg M4) (by decide+kernel)) (Kq rfl B.range_ (GU (Hi Jq G_ (Hm G5 (hr.mono (by decide)) rfl (GU (pv 0) (GU G_ GV)))) GV)) (λ_ _ _ _ _=>(HA (i:=0) MM rfl (Or.inl rfl))) (λ_ _ _ _ _=>J0) (λ_ _ _ _ _=>(Hy LS (pv 2) (Hi LK (Hm G5 (hr.mono (by decide)) rfl (GU (pv 1) (GU G_ GV))) G_) (λ_ _=>rfl)))) GV))))))),?_⟩
 refine⟨_,rfl,b,g,l,n,3,rfl,Bg,by omega,by decide,by decide,λc0 H1 c1 c2 B1 S1=>?_⟩;refine⟨_,rfl,rfl,_,rfl,Hx (λ_=>?_) (λ_=>?_)⟩
 · refine⟨rfl,_,rfl,b,g,l,_,8,rfl,B1,by omega,by decide,by decide,λr H2 r0 r1 B2 S2=>?_⟩;refine⟨_,_,rfl,rfl,_,rfl,by omega,by omega,λp hp=>?_⟩;obtain⟨pb,pg,pl⟩:=B2.free hp;have s3:=Hc hp (.lst []);have S12:=S1.trans S2;refine Lk (n:=(1+r).toNat) (λi σ' ys H'=>(∃v,σ'=[v,some (.ref b),some (.str "abcdefghijklmnopqrstuvwxyz")])∧SameB b g H H'∧Bag H' b g l (n+2+i)∧H' p=some (.lst ys)∧∃cs:List Nat,ys=(cs.map λc=>(⟨#[c]⟩:Str)).map V.str∧cs.length=i∧∀c∈cs,IX c=true) ?_ ?_ ?_ ?_
   · exact⟨⟨none,rfl⟩,S12.trans s3.sameB,(B2.same s3).mono (by omega),Ha,[],rfl,rfl,λc hc=>by simp at hc⟩
   · rintro i σ' ys H' hi ⟨_,_,_,h1,cs,rfl,h2,_⟩;exact⟨h1,by rw[Ab,Ab,h2];exact Il (by omega)⟩
   · rintro i σ' ys H4 N hi ⟨⟨v,rfl⟩,S4,B4,h1,cs,rfl,h2,h3⟩ hN;refine⟨_,rfl,_,rfl,b,g,l,_,26,rfl,B4,by omega,by decide,by decide,λk H5 k0 k1 B5 S5=>?_⟩;obtain⟨c,hc,ok⟩:=QA k0 k1;have h5:=S5 _ _ h1 pb pg;refine⟨_,_,c,rfl,rfl,(by show 26≤Ag;decide),hc,h5,hN _ _ _ ⟨⟨_,rfl⟩,?_,?_,Ha,cs++[c],?_,?_,?_⟩⟩
     · have np:H p=none:=S12.none hp pb pg;exact(S4.trans S5).off np
     · exact(B5.off pb pg pl).mono (by omega)
     · rw[Aj,Aj];rfl
     · rw[A3,h2];rfl
     · intro c' hc';rcases A6.mp hc' with z | z
       · exact h3 c' z
       · rw[Ai.mp z];exact ok
   · rintro σ' ys H4 ⟨_,S4,B4,h1,cs,rfl,h2,h3⟩;refine⟨_,_,_,rfl,rfl,SqL.of h1,RJ cs (by omega),q _ _ (TV (by omega) (by omega) h3) (B4.mono (by omega)) S4⟩
 · refine⟨rfl,_,rfl,b,g,l,_,4,rfl,B1,by omega,by decide,by decide,λr H2 r0 r1 B2 S2=>?_⟩;refine⟨_,_,rfl,rfl,_,rfl,by omega,by omega,λp hp=>?_⟩;obtain⟨pb,pg,pl⟩:=B2.free hp;have s3:=Hc hp (.lst []);have S12:=S1.trans S2;refine Lk (n:=(1+r).toNat) (λi σ' ys H'=>(∃v,σ'=[v,some (.ref b),some (.str "abcdefghijklmnopqrstuvwxyz")])∧SameB b g H H'∧Bag H' b g l (n+2+i)∧H' p=some (.lst ys)∧∃cs:List Nat,ys=(cs.map λc=>(⟨#[c]⟩:Str)).map V.str∧cs.length=i∧∀c∈cs,IX c=true) ?_ ?_ ?_ ?_
   · exact⟨⟨none,rfl⟩,S12.trans s3.sameB,(B2.same s3).mono (by omega),Ha,[],rfl,rfl,λc hc=>by simp at hc⟩
   · rintro i σ' ys H' hi ⟨_,_,_,h1,cs,rfl,h2,_⟩;exact⟨h1,by rw[Ab,Ab,h2];exact Il (by omega)⟩
   · rintro i σ' ys H4 N hi ⟨⟨v,rfl⟩,S4,B4,h1,cs,rfl,h2,h3⟩ hN;refine⟨_,rfl,_,rfl,b,g,l,_,2,rfl,B4,by omega,by decide,by decide,λk H5 k0 k1 B5 S5=>?_⟩;obtain⟨c,hc,ok⟩:=QA (r:=k*25) (by omega) (by omega);refine⟨_,_,rfl,rfl,.inl ⟨by omega,by omega⟩,?_⟩;have h5:=S5 _ _ h1 pb pg;refine⟨_,_,c,rfl,rfl,(by show 26≤Ag;decide),hc,h5,hN _ _ _ ⟨⟨_,rfl⟩,?_,?_,Ha,cs++[c],?_,?_,?_⟩⟩
     · have np:H p=none:=S12.none hp pb pg;exact(S4.trans S5).off np
     · exact(B5.off pb pg pl).mono (by omega)
     · rw[Aj,Aj];rfl
     · rw[A3,h2];rfl
     · intro c' hc';rcases A6.mp hc' with z | z
       · exact h3 c' z
       · rw[Ai.mp z];exact ok
   · rintro σ' ys H4 ⟨_,S4,B4,h1,cs,rfl,h2,h3⟩;refine⟨_,_,_,rfl,rfl,SqL.of h1,RJ cs (by omega),q _ _ (TV (by omega) (by omega) h3) (B4.mono (by omega)) S4⟩
theorem Zj(F:Fun K "_law_fields" "_law_fields" NY f fd)(G8:Γ25 P w K mg base)(G5:Γ20 P w K mg base):FnOk P w K mg base HH 3 f fd ["bag","most"] (Ua):=by
 refine F.ok Z5 (λvs H Q E h=>?_) (λcdv A outer s H vs Q E hr h=>?_)
 · obtain⟨b,g,l,n,most,rfl,Bg,hn,m0,m9,q⟩:=h;rfl
 obtain⟨b,g,l,n,most,rfl,Bg,hn,m0,m9,q⟩:=h;refine⟨_,(Hd (Hf (XX rfl (JI (N':=["k","bag"]) (js:=[none,some 0]) rfl (IV (N:=["bag","most"]) (outer:=Hg NY) (by decide+kernel)) (Kq rfl B.range_ (GU (Hm G5 (hr.mono (by decide)) rfl (GU (pv 0) (GU (Hi Jq (pv 1) G_) GV))) GV)) (λ_ _ _ _ _=>(HA (i:=0) Ql rfl (Or.inl rfl))) (λ_ _ _ _ _=>J0) (λ_ _ _ _ _=>(Hm G8 (hr.mono (by decide)) rfl (GU (pv 1) GV)))) rfl B.sorted_ rfl B.set_))),?_⟩;have big:most+1<2^500:=Int.lt_of_le_of_lt (show most+1≤10 by omega) (by decide)
 refine⟨_,rfl,_,rfl,_,_,rfl,rfl,b,g,l,n,_,rfl,Bg,by omega,by omega,big,λr H1 r0 r1 B1 S1=>?_⟩;refine⟨_,rfl,by omega,by omega,λp hp=>?_⟩;obtain⟨pb,pg,pl⟩:=B1.free hp;have np:H p=none:=S1.none hp pb pg;have s3:=Hc hp (.lst []);refine Lk (n:=r.toNat) (λi σ' ys H'=>(∃v,σ'=[v,some (.ref b)])∧SameB b g H H'∧Bag H' b g l (n+1+12*i)∧H' p=some (.lst ys)∧∃ts:List Str,ys=ts.map V.str∧ts.length=i∧∀t∈ts,FieldOk t) ?_ ?_ ?_ ?_
 · exact⟨⟨none,rfl⟩,S1.trans s3.sameB,(B1.same s3).mono (by omega),Ha,[],rfl,rfl,λc hc=>by simp at hc⟩
 · rintro i σ' ys H' hi ⟨_,_,_,h1,ts,rfl,h2,_⟩;exact⟨h1,by rw[Ab,h2];exact Il (by omega)⟩
 · rintro i σ' ys H4 N hi ⟨⟨v,rfl⟩,S4,B4,h1,ts,rfl,h2,h3⟩ hN;refine⟨_,rfl,b,g,l,_,rfl,B4,by omega,λx H5 ok B5 S5=>?_⟩;have h5:=S5 _ _ h1 pb pg;refine⟨h5,hN _ _ _ ⟨⟨_,rfl⟩,(S4.trans S5).off np,(B5.off pb pg pl).mono (by omega),Ha,ts++[x],?_,?_,?_⟩⟩
   · rw[Aj];rfl
   · rw[A3,h2];rfl
   · intro c' hc';rcases A6.mp hc' with z | z
     · exact h3 c' z
     · rw[Ai.mp z];exact ok
 · rintro σ' ys H4 ⟨_,S4,B4,h1,ts,rfl,h2,h3⟩;refine⟨p,ts,rfl,SqL.of h1,by omega,λz ms nd mem le so hz=>?_⟩;obtain⟨zb,zg,zl⟩:=B4.free hz;have s5:=Hc hz (.lst (ms.map V.str));exact q z ms _ (S4.none hz zb zg) Ha (Yf so nd) (λf hf=>h3 f ((mem f).mp hf)) (by omega) ((B4.same s5).mono (by omega)) (S4.trans s5.sameB)
theorem YN(F:Fun K "_law_same" "_law_same" NG f fd)  (M_self:mg "_law_same"=some (.ref f)):FnOk P w K mg base HH 11 f fd ["found","due"] (Mj 9 OA):=by
 have b_self:=F.binds (ps:=["found","due"]) λ_ _ _ _ _ _=>lS λ_=>lS λ_=>l0 rfl
 refine RM (L:=0) (D:=9) (O5 F T_ b_self M_self 0 (OA) λn sp0 hsp G9=>?_);refine F.ok T_ (λvs H Q E h=>?_) (λcdv A outer s H vs Q E hr h=>?_)
 · obtain⟨v,v',d,rfl,n9,h1,h2,hn,q⟩:=h;rfl
 obtain⟨v,v',d,rfl,n9,h1,h2,hn,q⟩:=h;refine⟨_,(Hb (HD (Mh (J_ (pv 1))) (Hd (Hf (LM (J_ (pv 0))))) HI)
  (Hb (HD (Iz (Hr TW rfl B.isinstance_ HX (GU (pv 1) (GU (IU (GU (HZ (v:= .ty "list") rfl B.list_ Nv rfl) (GU (HZ (v:= .ty "tuple") rfl B.tuple_ Js rfl) GV))) GV)))) (Hb (HD (PW.pt (Jb (IM (Iz (Hr TW rfl B.isinstance_ HX (GU (pv 0) (GU (IU (GU (HZ (v:= .ty "list") rfl B.list_ Nv rfl) (GU (HZ (v:= .ty "tuple") rfl B.tuple_ Js rfl) GV))) GV))))) (Jz (Ho JH (Hr (Iy (n:="")) rfl B.isinstance_ HX (GU (pv 0) (GU (HZ (v:= .ty "list") rfl B.list_ Nv rfl) GV))) (Hr (Iy (n:="")) rfl B.isinstance_ HX (GU (pv 1) (GU (HZ (v:= .ty "list") rfl B.list_ Nv rfl) GV))) (Hh _))))) (Hd (Hf Iv)) HI)
  (Hd (Hf (Km (J4 HL (Hr JN rfl B.len_ I_ (GU (pv 0) GV)) (Hr JN rfl B.len_ I_ (GU (pv 1) GV)) (Hh _)) (Jy (Hr (LY rfl) rfl B.all_ LR (GU (JI (N':=["k","found","due"]) (js:=[none,some 0,some 1]) rfl (IV (N:=["found","due"]) (outer:=Hg NG) (by decide+kernel)) (Kq rfl B.range_ (GU (Hr JN rfl B.len_ I_ (GU (pv 1) GV)) GV)) (λ_ _ _ _ _=>(HA (i:=0) Qk rfl (Or.inl rfl))) (λ_ _ _ _ _=>J0) (λ_ _ _ _ _=>(Hm G9 (hr.mono (by omega)) rfl (GU (Hy (RI K rfl) (pv 1) (pv 0) (λ_ _=>rfl)) (GU (Hy (RI K rfl) (pv 2) (pv 0) (λ_ _=>rfl)) GV))))) GV))))))) HI)
  (Hb (HD (PW.pt (Jb (Ho JH (Hr (Iy (n:="")) rfl B.isinstance_ HX (GU (pv 0) (GU (HZ (v:= .ty "bool") rfl B.bool_ Nu rfl) GV))) (Hr (Iy (n:="")) rfl B.isinstance_ HX (GU (pv 1) (GU (HZ (v:= .ty "bool") rfl B.bool_ Nu rfl) GV))) (Hh _)) (Jz (Ho JH (Hr (Iy (n:="")) rfl B.isinstance_ HX (GU (pv 0) (GU (HZ (v:= .ty "int") rfl B.int_ Ko rfl) GV))) (Hr (Iy (n:="")) rfl B.isinstance_ HX (GU (pv 1) (GU (HZ (v:= .ty "int") rfl B.int_ Ko rfl) GV))) (Hh _))))) (Hd (Hf Iv)) HI)
  (Hd (Hf (Km (J4 HL (Hr (Iy (n:="")) rfl B.isinstance_ HX (GU (pv 0) (GU (HZ (v:= .ty "str") rfl B.str_ KC rfl) GV))) (Hr (Iy (n:="")) rfl B.isinstance_ HX (GU (pv 1) (GU (HZ (v:= .ty "str") rfl B.str_ KC rfl) GV))) (Hh _)) (Jy (J4 (V7 (KM hr)) (pv 0) (pv 1) (Hh _))))))))),?_⟩
 cases d with
 | non=> rw[RepY] at h1 h2;subst h1 h2;exact⟨_,rfl,_,rfl,GX ⟨_,rfl,q H (Same.refl _)⟩⟩
 | bl x=> have r1:=h1;have r2:=h2;rw[RepY] at h1 h2;subst h1 h2;refine⟨_,rfl,_,rfl,GW ⟨_,rfl,Ii,λt1 ht1=>?_⟩⟩;have s1:=Hc ht1 (.tup [V.ty "list",V.ty "tuple"]);have c1:(GZ H t1 (.tup [V.ty "list",V.ty "tuple"])) t1=some (.tup [V.ty "list",V.ty "tuple"]):=Ha;generalize GZ H t1 (.tup [V.ty "list",V.ty "tuple"])=H1 at*;refine⟨_,"bool",t1,_,false,rfl,.bl x,c1,rfl,rfl,_,rfl,GW ?_⟩;refine⟨_,rfl,_,"bool","bool",true,rfl,.bl x,rfl,_,rfl,_,"bool","bool",true,rfl,.bl x,rfl,rfl,_,rfl,GW ?_⟩;refine⟨_,rfl,_,"bool","int",true,rfl,.bl x,rfl,_,rfl,_,"bool","int",true,rfl,.bl x,rfl,rfl,_,rfl,GW ?_⟩;refine⟨_,rfl,_,"bool","str",false,rfl,.bl x,rfl,_,rfl,_,"bool","str",false,rfl,.bl x,rfl,rfl,_,rfl,GX ?_⟩;exact⟨_,rfl,_,rfl,_,RepY.same s1 _ r1,RepY.same s1 _ r2,by omega,q H1 s1⟩
 | int x=> have r1:=h1;have r2:=h2;rw[RepY] at h1 h2;subst h1 h2;refine⟨_,rfl,_,rfl,GW ⟨_,rfl,Ii,λt1 ht1=>?_⟩⟩;have s1:=Hc ht1 (.tup [V.ty "list",V.ty "tuple"]);have c1:(GZ H t1 (.tup [V.ty "list",V.ty "tuple"])) t1=some (.tup [V.ty "list",V.ty "tuple"]):=Ha;generalize GZ H t1 (.tup [V.ty "list",V.ty "tuple"])=H1 at*;refine⟨_,"int",t1,_,false,rfl,.int x,c1,rfl,rfl,_,rfl,GW ?_⟩;refine⟨_,rfl,_,"int","bool",false,rfl,.int x,rfl,_,rfl,_,"int","bool",false,rfl,.int x,rfl,rfl,_,rfl,GW ?_⟩;refine⟨_,rfl,_,"int","int",true,rfl,.int x,rfl,_,rfl,_,"int","int",true,rfl,.int x,rfl,rfl,_,rfl,GW ?_⟩;refine⟨_,rfl,_,"int","str",false,rfl,.int x,rfl,_,rfl,_,"int","str",false,rfl,.int x,rfl,rfl,_,rfl,GX ?_⟩;exact⟨_,rfl,_,rfl,_,RepY.same s1 _ r1,RepY.same s1 _ r2,by omega,q H1 s1⟩
 | str x=> have r1:=h1;have r2:=h2;rw[RepY] at h1 h2;obtain⟨rfl,hx⟩:=h1;obtain⟨rfl,_⟩:=h2;refine⟨_,rfl,_,rfl,GW ⟨_,rfl,Ii,λt1 ht1=>?_⟩⟩;have s1:=Hc ht1 (.tup [V.ty "list",V.ty "tuple"]);have c1:(GZ H t1 (.tup [V.ty "list",V.ty "tuple"])) t1=some (.tup [V.ty "list",V.ty "tuple"]):=Ha;generalize GZ H t1 (.tup [V.ty "list",V.ty "tuple"])=H1 at*;refine⟨_,"str",t1,_,false,rfl,.str x,c1,rfl,rfl,_,rfl,GW ?_⟩;refine⟨_,rfl,_,"str","bool",false,rfl,.str x,rfl,_,rfl,_,"str","bool",false,rfl,.str x,rfl,rfl,_,rfl,GW ?_⟩;refine⟨_,rfl,_,"str","int",false,rfl,.str x,rfl,_,rfl,_,"str","int",false,rfl,.str x,rfl,rfl,_,rfl,GW ?_⟩;refine⟨_,rfl,_,"str","str",true,rfl,.str x,rfl,_,rfl,_,"str","str",true,rfl,.str x,rfl,rfl,_,rfl,GX ?_⟩;exact⟨_,rfl,_,rfl,_,RepY.same s1 _ r1,RepY.same s1 _ r2,by omega,q H1 s1⟩
 | dic=> have r1:=h1;have r2:=h2;rw[RepY] at h1 h2;obtain⟨a,rfl,ha⟩:=h1;obtain⟨a',rfl,ha'⟩:=h2;refine⟨_,rfl,_,rfl,GW ⟨_,rfl,Ii,λt1 ht1=>?_⟩⟩;have s1:=Hc ht1 (.tup [V.ty "list",V.ty "tuple"]);have c1:(GZ H t1 (.tup [V.ty "list",V.ty "tuple"])) t1=some (.tup [V.ty "list",V.ty "tuple"]):=Ha;generalize GZ H t1 (.tup [V.ty "list",V.ty "tuple"])=H1 at*;refine⟨_,"dict",t1,_,false,rfl,.dK (s1 _ _ ha'),c1,rfl,rfl,_,rfl,GW ?_⟩;refine⟨_,rfl,_,"dict","bool",false,rfl,.dK (s1 _ _ ha),rfl,_,rfl,_,"dict","bool",false,rfl,.dK (s1 _ _ ha'),rfl,rfl,_,rfl,GW ?_⟩;refine⟨_,rfl,_,"dict","int",false,rfl,.dK (s1 _ _ ha),rfl,_,rfl,_,"dict","int",false,rfl,.dK (s1 _ _ ha'),rfl,rfl,_,rfl,GW ?_⟩;refine⟨_,rfl,_,"dict","str",false,rfl,.dK (s1 _ _ ha),rfl,_,rfl,_,"dict","str",false,rfl,.dK (s1 _ _ ha'),rfl,rfl,_,rfl,GX ?_⟩;exact⟨_,rfl,_,rfl,_,RepY.same s1 _ r1,RepY.same s1 _ r2,by omega,q H1 s1⟩
 | da d=> have r1:=h1;have r2:=h2;rw[RepY] at h1 h2;obtain⟨a,u,rfl,ha,hu⟩:=h1;obtain⟨a',u',rfl,ha',hu'⟩:=h2;refine⟨_,rfl,_,rfl,GW ⟨_,rfl,Ii,λt1 ht1=>?_⟩⟩;have s1:=Hc ht1 (.tup [V.ty "list",V.ty "tuple"]);have c1:(GZ H t1 (.tup [V.ty "list",V.ty "tuple"])) t1=some (.tup [V.ty "list",V.ty "tuple"]):=Ha;generalize GZ H t1 (.tup [V.ty "list",V.ty "tuple"])=H1 at*;refine⟨_,"dict",t1,_,false,rfl,.dK (s1 _ _ ha'),c1,rfl,rfl,_,rfl,GW ?_⟩;refine⟨_,rfl,_,"dict","bool",false,rfl,.dK (s1 _ _ ha),rfl,_,rfl,_,"dict","bool",false,rfl,.dK (s1 _ _ ha'),rfl,rfl,_,rfl,GW ?_⟩;refine⟨_,rfl,_,"dict","int",false,rfl,.dK (s1 _ _ ha),rfl,_,rfl,_,"dict","int",false,rfl,.dK (s1 _ _ ha'),rfl,rfl,_,rfl,GW ?_⟩;refine⟨_,rfl,_,"dict","str",false,rfl,.dK (s1 _ _ ha),rfl,_,rfl,_,"dict","str",false,rfl,.dK (s1 _ _ ha'),rfl,rfl,_,rfl,GX ?_⟩;exact⟨_,rfl,_,rfl,_,RepY.same s1 _ r1,RepY.same s1 _ r2,by omega,q H1 s1⟩
 | lst ds=>
  rw[RepY] at h1 h2;obtain⟨a,xs,rfl,ha,h9,hx⟩:=h1;obtain⟨a',xs',rfl,ha',_,hx'⟩:=h2;obtain⟨m,rfl⟩:∃m,n=m+1:=⟨n - 1,by rw[HW] at hn;omega⟩;have e0:=hsp m rfl;subst e0;rw[HW] at hn;have hl:=hx.length;have hl':=hx'.length;refine⟨_,rfl,_,rfl,GW ⟨_,rfl,Ii,λt1 ht1=>?_⟩⟩;have s1:=Hc ht1 (.tup [V.ty "list",V.ty "tuple"]);have c1:(GZ H t1 (.tup [V.ty "list",V.ty "tuple"])) t1=some (.tup [V.ty "list",V.ty "tuple"]):=Ha;generalize GZ H t1 (.tup [V.ty "list",V.ty "tuple"])=H1 at*;refine⟨_,"list",t1,_,true,rfl,.lst (s1 _ _ ha'),c1,rfl,rfl,_,rfl,GX ⟨_,rfl,Ii,λt2 ht2=>?_⟩⟩;have s2:=Hc ht2 (.tup [V.ty "list",V.ty "tuple"]);have c2:(GZ H1 t2 (.tup [V.ty "list",V.ty "tuple"])) t2=some (.tup [V.ty "list",V.ty "tuple"]):=Ha;generalize GZ H1 t2 (.tup [V.ty "list",V.ty "tuple"])=H2 at*;have S:=s1.trans s2;have ka:=S _ _ ha;have ka':=S _ _ ha';refine⟨_,"list",t2,_,true,rfl,.lst ka,c2,rfl,rfl,_,rfl,GW ⟨_,rfl,_,"list","list",true,rfl,.lst ka,rfl,_,rfl,_,"list","list",true,rfl,.lst ka',rfl,rfl,_,rfl,GW ?_⟩⟩;refine⟨_,rfl,a,_,rfl,.inl (SqL.of ka),_,rfl,a',_,rfl,.inl (SqL.of ka'),rfl,_,rfl,?_⟩;rw[decide_eq_true (show V.int ((xs.length:Nat):Int)=V.int ((xs'.length:Nat):Int) by rw[hl,hl'])];refine GX ⟨_,rfl,a',_,rfl,.inl (SqL.of ka'),_,rfl,by omega,by omega,λp hp=>?_⟩;have s3:=Hc hp (.lst []);refine Lk (n:=((xs'.length:Nat):Int).toNat) (λi σ' ys H'=>(∃v,σ'=[v,some (.ref a),some (.ref a')])∧Same H2 H'∧H' p=some (.lst ys)∧ys=(Ce i true).map V.bl) ⟨⟨none,rfl⟩,s3,Ha,rfl⟩ ?_ ?_ ?_
  · rintro i σ' ys H' hi ⟨_,_,h1,h2⟩;exact⟨h1,by rw[h2,Ab,DL];exact Il (by omega)⟩
  · rintro i σ' ys H4 N hi ⟨⟨v,rfl⟩,s4,h1,h2⟩ hN;have hi2:i<xs'.length:=by omega
    obtain⟨x,ex⟩:∃x,xs[i]?=some x:=⟨xs[i]'(by omega),by simp[hl,hl',hi2]⟩;obtain⟨x',ex'⟩:∃x,xs'[i]?=some x:=⟨xs'[i],by simp[hi2]⟩;obtain⟨d,ed,rd⟩:=hx.get ex;obtain⟨d',ed',rd'⟩:=hx'.get ex';rw[ed] at ed';injection ed' with ed';subst ed';have e0:(0:Int)+(i:Int)=(i:Int):=by omega
    have at1:Ir xs (0+(i:Int))=some x:=by rw[e0];exact Jh ex
    have at2:Ir xs' (0+(i:Int))=some x':=by rw[e0];exact Jh ex'
    have S4:=S.trans s4;refine⟨_,rfl,_,rfl,a,xs,_,x,rfl,rfl,.inl (SqL.of (S4 _ _ ha)),at1,_,rfl,_,rfl,a',xs',_,x',rfl,rfl,.inl (SqL.of (S4 _ _ ha')),at2,x,x',d,rfl,by omega,RepY.same S4 d rd,RepY.same S4 d rd',by have:=Ph (AA ed);omega,λH5 s5=>⟨s5 _ _ h1,hN _ _ _ ⟨⟨_,rfl⟩,?_,Ha,?_⟩⟩⟩
    · intro b o q;have:b≠p:=λz=>by rw[z,hp] at q;cases q
      rw[Hk this];exact s5 _ _ (s4 b o q)
    · rw[h2,FA,Aj];rfl
  · rintro σ' ys H4 ⟨_,s4,h1,h2⟩;refine⟨p,_,rfl,SqL.of (by rw[h1,h2]),?_⟩;have e:(Ce ((xs'.length:Nat):Int).toNat true).all id=true:=by simp
    rw[e];exact q H4 (S.trans s4)
 | tup ds=>
  rw[RepY] at h1 h2;obtain⟨a,xs,rfl,ha,h9,hx⟩:=h1;obtain⟨a',xs',rfl,ha',_,hx'⟩:=h2;obtain⟨m,rfl⟩:∃m,n=m+1:=⟨n - 1,by rw[HW] at hn;omega⟩;have e0:=hsp m rfl;subst e0;rw[HW] at hn;have hl:=hx.length;have hl':=hx'.length;refine⟨_,rfl,_,rfl,GW ⟨_,rfl,Ii,λt1 ht1=>?_⟩⟩;have s1:=Hc ht1 (.tup [V.ty "list",V.ty "tuple"]);have c1:(GZ H t1 (.tup [V.ty "list",V.ty "tuple"])) t1=some (.tup [V.ty "list",V.ty "tuple"]):=Ha;generalize GZ H t1 (.tup [V.ty "list",V.ty "tuple"])=H1 at*;refine⟨_,"tuple",t1,_,true,rfl,.tup (s1 _ _ ha'),c1,rfl,rfl,_,rfl,GX ⟨_,rfl,Ii,λt2 ht2=>?_⟩⟩;have s2:=Hc ht2 (.tup [V.ty "list",V.ty "tuple"]);have c2:(GZ H1 t2 (.tup [V.ty "list",V.ty "tuple"])) t2=some (.tup [V.ty "list",V.ty "tuple"]):=Ha;generalize GZ H1 t2 (.tup [V.ty "list",V.ty "tuple"])=H2 at*;have S:=s1.trans s2;have ka:=S _ _ ha;have ka':=S _ _ ha';refine⟨_,"tuple",t2,_,true,rfl,.tup ka,c2,rfl,rfl,_,rfl,GW ⟨_,rfl,_,"tuple","list",false,rfl,.tup ka,rfl,_,rfl,_,"tuple","list",false,rfl,.tup ka',rfl,rfl,_,rfl,GW ?_⟩⟩;refine⟨_,rfl,a,_,rfl,.inr (SqT.of ka),_,rfl,a',_,rfl,.inr (SqT.of ka'),rfl,_,rfl,?_⟩;rw[decide_eq_true (show V.int ((xs.length:Nat):Int)=V.int ((xs'.length:Nat):Int) by rw[hl,hl'])];refine GX ⟨_,rfl,a',_,rfl,.inr (SqT.of ka'),_,rfl,by omega,by omega,λp hp=>?_⟩;have s3:=Hc hp (.lst []);refine Lk (n:=((xs'.length:Nat):Int).toNat) (λi σ' ys H'=>(∃v,σ'=[v,some (.ref a),some (.ref a')])∧Same H2 H'∧H' p=some (.lst ys)∧ys=(Ce i true).map V.bl) ⟨⟨none,rfl⟩,s3,Ha,rfl⟩ ?_ ?_ ?_
  · rintro i σ' ys H' hi ⟨_,_,h1,h2⟩;exact⟨h1,by rw[h2,Ab,DL];exact Il (by omega)⟩
  · rintro i σ' ys H4 N hi ⟨⟨v,rfl⟩,s4,h1,h2⟩ hN;have hi2:i<xs'.length:=by omega
    obtain⟨x,ex⟩:∃x,xs[i]?=some x:=⟨xs[i]'(by omega),by simp[hl,hl',hi2]⟩;obtain⟨x',ex'⟩:∃x,xs'[i]?=some x:=⟨xs'[i],by simp[hi2]⟩;obtain⟨d,ed,rd⟩:=hx.get ex;obtain⟨d',ed',rd'⟩:=hx'.get ex';rw[ed] at ed';injection ed' with ed';subst ed';have e0:(0:Int)+(i:Int)=(i:Int):=by omega
    have at1:Ir xs (0+(i:Int))=some x:=by rw[e0];exact Jh ex
    have at2:Ir xs' (0+(i:Int))=some x':=by rw[e0];exact Jh ex'
    have S4:=S.trans s4;refine⟨_,rfl,_,rfl,a,xs,_,x,rfl,rfl,.inr (SqT.of (S4 _ _ ha)),at1,_,rfl,_,rfl,a',xs',_,x',rfl,rfl,.inr (SqT.of (S4 _ _ ha')),at2,x,x',d,rfl,by omega,RepY.same S4 d rd,RepY.same S4 d rd',by have:=Ph (AA ed);omega,λH5 s5=>⟨s5 _ _ h1,hN _ _ _ ⟨⟨_,rfl⟩,?_,Ha,?_⟩⟩⟩
    · intro b o q;have:b≠p:=λz=>by rw[z,hp] at q;cases q
      rw[Hk this];exact s5 _ _ (s4 b o q)
    · rw[h2,FA,Aj];rfl
  · rintro σ' ys H4 ⟨_,s4,h1,h2⟩;refine⟨p,_,rfl,SqL.of (by rw[h1,h2]),?_⟩;have e:(Ce ((xs'.length:Nat):Int).toNat true).all id=true:=by simp
    rw[e];exact q H4 (S.trans s4)
theorem YL(F:Fun K "_law_made" "_law_made" P3 f fd)(GA:Γ26 P w K mg base)(GB:Γ23 P w K mg base)(G6:Γ21 P w K mg base):FnOk P w K mg base HH 4 f fd ["bag","size","most"] (RY):=by
 refine F.ok FY (λvs H Q E h=>?_) (λcdv A outer s H vs Q E hr h=>?_)
 · obtain⟨b,g,l,n,size,most,rfl,Bg,hn,m0,m9,hs,q⟩:=h;rfl
 obtain⟨b,g,l,n,size,most,rfl,Bg,hn,m0,m9,hs,q⟩:=h;refine⟨_,(Hb (Hz (i:=3) FY.nd rfl (Or.inl rfl) (IC GV))
  (Hb (KH BY rfl (Kg (Hm GA (hr.mono (by decide)) rfl (GU (pv 0) (GU (pv 2) GV)))) (HA (i:=4) FY.nd rfl (Or.inl rfl)) (Hb (Hz (i:=5) FY.nd rfl (Or.inl rfl) (Hm GB (hr.mono (by decide)) rfl (GU (pv 0) GV)))
  (Hd (J5 (Iw BX EM EN NJ (pv 3) (GU (Jm (Ho HL (pv 1) G_ (Hh _)) (IU (GU (pv 4) (GU (Hy Jl (pv 5) G_ (λ_ _=>rfl)) (GU (Hy Jl (pv 5) G_ (λ_ _=>rfl)) GV)))) (IU (GU (pv 4) (GU (Hm G6 (hr.mono (by decide)) rfl (GU (pv 0) GV)) GV)))) GV))))))
  (Hd (Hf (JE Ln rfl B.tuple_ Js (GU (pv 3) GV)))))),?_⟩
 refine⟨JO,λr hr'=>?_⟩;obtain⟨rb,rg,rl⟩:=Bg.free hr';have s0:=Hc hr' (.lst []);have Bg0:=Bg.same s0;refine⟨_,rfl,_,rfl,b,g,l,_,most,rfl,Bg0,by omega,m0,by omega,λfl fs H1 hfl efl asc fok flen B1 S1=>?_⟩;obtain⟨fb,fg,fll⟩:=Bg0.free hfl;have fr:fl≠r:=λz=>by rw[z,Ha] at hfl;cases hfl
 have S01:=s0.sameB.trans S1;have er1:H1 r=some (.lst []):=S1 _ _ Ha rb rg;have np:H r=none:=hr';rcases hs with rfl | rfl
 · refine⟨fl,rfl,⟨_,SqL.of efl⟩,My (K:=K) (a:=fl) (xs:=fs.map V.str) (λi σ H'=>(∃y4 y5,σ=[some (.ref b),some (.int 2),some (.int most),some (.ref r),y4,y5])∧SameB b g H H'∧Bag H' b g l (n+200+12*i)∧H' fl=some (.lst (fs.map V.str))∧
    ∃qs:List (Addr×PP),H' r=some (.lst (qs.map λq=>V.ref q.1))∧(∀q∈qs,H' q.1=some (.tup [.str q.2.1,.int q.2.2])∧Sm q.2.2)∧qs.map (·.2.1)=fs.take i) ?_ ?_ ?_ ?_⟩
   · exact⟨⟨none,none,rfl⟩,S01,B1.mono (by omega),efl,[],er1,λq hq=>by simp at hq,rfl⟩
   · rintro i σ H' _ ⟨_,_,_,F1,_⟩;exact SqL.of F1
   · rintro i x σ H2 hx ⟨⟨y4,y5,rfl⟩,S2,B2,F2,qs,e2,a2,u2⟩;rw[Ay] at hx;cases ef:fs[i]? with
     | none=>rw[ef] at hx;cases hx
     | some f'=>
      rw[ef] at hx;obtain rfl:V.str f'=x:=Am hx;have li:i<9:=by have:=(AM.mp ef).1;omega
      have ql:qs.length≤i:=by have:=congrArg BC u2;rw[Ab,AE] at this;omega
      refine⟨_,rfl,b,g,l,_,rfl,B2,by omega,λv lo hi H3 sp G3 B3 S3=>?_⟩;have e3:=S3 _ _ e2 rb rg;refine⟨_,rfl,.inl ⟨rfl,_,SqL.of e3⟩,_,rfl,rfl,_,rfl,GW ⟨_,rfl,_,rfl,b,g,l,_,rfl,B3,by omega,λk H4 k0 k1 B4 S4=>⟨Ii,λt ht=>?_⟩⟩⟩;have e4:=S4 _ _ e3 rb rg;have F4:=S4 _ _ (S3 _ _ F2 fb fg) fb fg;have st:=Hc ht (.tup [V.str f',V.int k]);have e5:=st _ _ e4;refine⟨r,_,_,rfl,rfl,e5,(by rw[Ab];exact Il (by omega)),?_⟩;have tl:=Sv (o:= .lst (qs.map (λq=>V.ref q.1)++[V.ref t])) e5;refine⟨⟨_,_,rfl⟩,(((S2.trans S3).trans S4).trans st.sameB).off np,((B4.same st).off rb rg rl).mono (by omega),?_,qs++[(t,f',k)],?_,?_,?_⟩
      · rw[Hk fr];exact st _ _ F4
      · rw[Ha,Aj];rfl
      · intro q hq;rcases A6.mp hq with z | z
        · exact⟨tl _ _ (st _ _ (S4.tup B3 (S3.tup B2 (a2 q z).1))),(a2 q z).2⟩
        · rw[Ai.mp z];exact⟨tl _ _ Ha,⟨k0,k1⟩⟩
      · rw[Aj,Jd ef,u2];rfl
   · rintro σ H2 ⟨⟨y4,y5,rfl⟩,S2,B2,F2,qs,e2,a2,u2⟩;rw[Ab,AJ (Ae _)] at u2;have ll:qs.length=fs.length:=by have:=congrArg BC u2;rw[Ab] at this;exact this
     refine⟨_,rfl,r,_,rfl,.inl ⟨SqL.of e2,λt ht=>?_⟩⟩;have st:=Hc ht (.tup (qs.map λq=>V.ref q.1));refine q t _ (.inr ⟨rfl,qs.map (·.2),⟨qs,rfl,Ha,λq hq=>st _ _ (a2 q hq).1⟩,⟨by rw[Ab];omega,λp hp=>?_,?_⟩,λp hp=>?_,by rw[Ab];omega⟩) ((B2.same st).mono (by rw[Ab];omega)) (S2.trans st.sameB)
     · obtain⟨q',hq',rfl⟩:=A4.mp hp;have:=fok _ (by rw[←u2];exact BM (f:=λ(x:Addr×PP)=>x.2.1) hq');exact this
     · rw[C2];rw[show((·.1)∘(·.2):Addr×PP→Str)=(λx=>x.2.1) from rfl,u2];exact asc
     · obtain⟨q',hq',rfl⟩:=A4.mp hp;exact(a2 q' hq').2.md
 · refine⟨fl,rfl,⟨_,SqL.of efl⟩,My (K:=K) (a:=fl) (xs:=fs.map V.str) (λi σ H'=>(∃y4 y5,σ=[some (.ref b),some (.int 3),some (.int most),some (.ref r),y4,y5])∧SameB b g H H'∧Bag H' b g l (n+200+12*i)∧H' fl=some (.lst (fs.map V.str))∧
    ∃qs:List (Addr×WP),H' r=some (.lst (qs.map λq=>V.ref q.1))∧(∀q∈qs,H' q.1=some (.tup [.str q.2.1,eV q.2.2.1,eV q.2.2.2])∧Good q.2.2.1 q.2.2.2)∧qs.map (·.2.1)=fs.take i) ?_ ?_ ?_ ?_⟩
   · exact⟨⟨none,none,rfl⟩,S01,B1.mono (by omega),efl,[],er1,λq hq=>by simp at hq,rfl⟩
   · rintro i σ H' _ ⟨_,_,_,F1,_⟩;exact SqL.of F1
   · rintro i x σ H2 hx ⟨⟨y4,y5,rfl⟩,S2,B2,F2,qs,e2,a2,u2⟩;rw[Ay] at hx;cases ef:fs[i]? with
     | none=>rw[ef] at hx;cases hx
     | some f'=>
      rw[ef] at hx;obtain rfl:V.str f'=x:=Am hx;have li:i<9:=by have:=(AM.mp ef).1;omega
      have ql:qs.length≤i:=by have:=congrArg BC u2;rw[Ab,AE] at this;omega
      refine⟨_,rfl,b,g,l,_,rfl,B2,by omega,λv lo hi H3 sp G3 B3 S3=>?_⟩;have e3:=S3 _ _ e2 rb rg;have F3:=S3 _ _ F2 fb fg;obtain⟨sa,rfl,es⟩:=sp;refine⟨_,rfl,.inl ⟨rfl,_,SqL.of e3⟩,_,rfl,rfl,_,rfl,GX ⟨_,rfl,_,rfl,sa,_,0,_,rfl,rfl,SqT.of es,rfl,_,rfl,sa,_,1,_,rfl,rfl,SqT.of es,rfl,Me,λt ht=>?_⟩⟩;have st:=Hc ht (.tup [V.str f',eV lo,eV hi]);have e5:=st _ _ e3;refine⟨r,_,_,rfl,rfl,e5,(by rw[Ab];exact Il (by omega)),?_⟩;have tl:=Sv (o:= .lst (qs.map (λq=>V.ref q.1)++[V.ref t])) e5;refine⟨⟨_,_,rfl⟩,((S2.trans S3).trans st.sameB).off np,((B3.same st).off rb rg rl).mono (by omega),?_,qs++[(t,f',lo,hi)],?_,?_,?_⟩
      · rw[Hk fr];exact st _ _ F3
      · rw[Ha,Aj];rfl
      · intro q hq;rcases A6.mp hq with z | z
        · exact⟨tl _ _ (st _ _ (S3.tup B2 (a2 q z).1)),(a2 q z).2⟩
        · rw[Ai.mp z];exact⟨tl _ _ Ha,G3⟩
      · rw[Aj,Jd ef,u2];rfl
   · rintro σ H2 ⟨⟨y4,y5,rfl⟩,S2,B2,F2,qs,e2,a2,u2⟩;rw[Ab,AJ (Ae _)] at u2;have ll:qs.length=fs.length:=by have:=congrArg BC u2;rw[Ab] at this;exact this
     refine⟨_,rfl,r,_,rfl,.inl ⟨SqL.of e2,λt ht=>?_⟩⟩;have st:=Hc ht (.tup (qs.map λq=>V.ref q.1));refine q t _ (.inl ⟨rfl,qs.map (·.2),⟨qs,rfl,Ha,λq hq=>st _ _ (a2 q hq).1⟩,⟨by rw[Ab];omega,λp hp=>?_,?_⟩,λp hp=>?_,by rw[Ab];omega⟩) ((B2.same st).mono (by rw[Ab];omega)) (S2.trans st.sameB)
     · obtain⟨q',hq',rfl⟩:=A4.mp hp;have:=fok _ (by rw[←u2];exact BM (f:=λ(x:Addr×WP)=>x.2.1) hq');exact⟨this,(a2 q' hq').2.le⟩
     · rw[C2];rw[show((·.1)∘(·.2):Addr×WP→Str)=(λx=>x.2.1) from rfl,u2];exact asc
     · obtain⟨q',hq',rfl⟩:=A4.mp hp;exact W5 (a2 q' hq').2
theorem Z0(F:Fun K "_law_written" "_law_written" NU f fd)  :FnOk P w K mg base HH 1 f fd ["thing"] (Ts):=by
 refine F.ok FZ (λvs H Q E h=>?_) (λcdv A outer s H vs Q E hr h=>?_)
 · obtain⟨a,w',rfl,hw,ok,q⟩:=h;rfl
 obtain⟨a,w',rfl,hw,ok,q⟩:=h;refine⟨_,(Hb (Hz (i:=1) FZ.nd rfl (Or.inl rfl) (IC GV))
  (Hb (KH BY rfl (Nj (pv 0)) (HA (i:=2) FZ.nd rfl (Or.inl rfl)) (Hb (LX (N':=["end"]) (js:=[none]) (i:=3) FZ.nd rfl (Or.inl rfl) rfl (IV (N:=["thing","words","part","ends"]) (outer:=Hg NU) (by decide+kernel)) (Nj (Kp RU (pv 2) (Kw G_) Kv)) (λ_ _ _ _ _=>(HA (i:=0) Qj rfl (Or.inl rfl))) (λ_ _ _ _ _=>J0) (λ_ _ _ _ _=>(Jm (Mh (J_ (pv 0))) Hq (JE X1 rfl B.str_ KC (GU (pv 0) GV)))))
  (Hd (J5 (Iw BX EM EN NJ (pv 1) (GU (Hi IW (Hi IW (Hy Jl (pv 2) G_ (λ_ _=>rfl)) Hq) (Iw A5 C7 C8 Mr Hq (GU (pv 3) GV))) GV))))))
  (Hd (Hf (Jm (Ho (Oy (KM hr)) (pv 1) (IC GV) (Hh _)) (Iw A5 C7 C8 Mr Hq (GU (pv 1) GV)) Hq))))),?_⟩
 obtain⟨ps,hps,ha,hp⟩:=hw;refine⟨JO,λr hr'=>?_⟩;have s0:=Hc hr' (.lst []);have hlen:ps.length=w'.length:=by rw[←hps,Ab]
 have h100:=ok.len;refine⟨_,rfl,a,rfl,⟨_,SqT.of (s0 _ _ ha)⟩,W4 (K:=K) (a:=a) (xs:=ps.map λp=>V.ref p.1) (λi σ H'=>(∃y2 y3,σ=[some (.ref a),some (.ref r),y2,y3])∧Same H H'∧∃ts:List Str,H' r=some (.lst (ts.map V.str))∧ts.map sg=(w'.take i).map K6) ?_ ?_ ?_ ?_⟩
 · exact⟨⟨none,none,rfl⟩,s0,[],Ha,rfl⟩
 · rintro i σ H' _ ⟨_,s,_⟩;exact SqT.of (s _ _ ha)
 · rintro i y σ H' hy ⟨⟨y2,y3,rfl⟩,s,ts,h1,h2⟩;obtain⟨P1,hc,rfl⟩:=MU hy;have hm:P1∈ps:=AA hc;have hwi:w'[i]?=some P1.2:=by rw[←hps,Ay,hc];rfl
   have hwm:P1.2∈w':=AA hwi;obtain⟨l8,l2,le⟩:=ok.ok _ hwm;refine⟨_,rfl,_,rfl,P1.1,_,rfl,SqT.of (s _ _ (hp P1 hm)),λh=>absurd h (U5 _ _),λ_ u hu=>?_⟩;rw[X2];have su:=Hc hu (.tup (P1.2.2.map eV));have eu:(GZ H' u (.tup (P1.2.2.map eV))) u=some (.tup (P1.2.2.map eV)):=Ha;generalize GZ H' u (.tup (P1.2.2.map eV))=Hu at su eu;refine⟨u,rfl,⟨_,SqT.of eu⟩,λp hpn=>?_⟩;have sp:=Hc hpn (.lst []);refine Ox (K:=K) (a:=u) (xs:=P1.2.2.map eV) (λj σ' ys H2=>(∃v,σ'=[v])∧Same Hu H2∧H2 p=some (.lst ys)∧∃us:List Str,ys=us.map V.str∧us.map sg=(P1.2.2.take j).map Ij) ?_ ?_ ?_ ?_
   · exact⟨⟨none,rfl⟩,sp,Ha,[],rfl,rfl⟩
   · rintro j σ' ys H2 hj ⟨_,s2,g1,us,rfl,g2⟩;refine⟨SqT.of (s2 _ _ eu),g1,?_⟩;rw[Ab];have:=congrArg BC g2;rw[Ab,Ab,AE] at this;exact Il (by omega)
   · rintro j y σ' ys H2 N hy ⟨⟨v,rfl⟩,s2,g1,us,rfl,g2⟩ hN;rw[Ay] at hy;cases ho:P1.2.2[j]? with
     | none=>rw[ho] at hy;cases hy
     | some o=>
      rw[ho] at hy;obtain rfl:eV o=y:=Am hy;have fin:∀z:Str,sg z=Ij o→N [some (eV o)] (us.map V.str++[V.str z]) (GZ H2 p (.lst (us.map V.str++[V.str z]))):=λz hz=>by refine hN _ _ _ ⟨⟨_,rfl⟩,Jn s2 hpn,Ha,us++[z],by rw[Aj];rfl,?_⟩;rw[Aj,g2,Jd ho,Aj];show _++[sg z]=_;rw[hz];rfl
      cases o with
      | none=>exact⟨_,rfl,_,rfl,GX ⟨g1,fin _ Mm⟩⟩
      | some n=> refine⟨_,rfl,_,rfl,GW ⟨_,rfl,_,_,rfl,rfl,λi e=>?_,g1,fin _ rfl⟩⟩;cases e;exact V1 ((le (some n) (AA ho)).2 n rfl)
   · rintro σ' ys H2 ⟨_,s2,g1,us,rfl,g2⟩;rw[Ab,AJ (Ae _)] at g2;have t2:=(s.trans su).trans s2;have tH:=su.trans s2;have hlu:us.length=P1.2.2.length:=by have:=congrArg BC g2;rw[Ab,Ab] at this;exact this
     have hu17:∀z∈us,z.length≤17:=λz hz=>by obtain⟨o,ho,e⟩:=A4.mp (show sg z∈P1.2.2.map Ij by rw[←g2];exact BM hz);rw[IG,←e];exact(le o ho).1
     have sgj:sg (Di ("..":Str) us)=jn [46,46] (P1.2.2.map Ij):=by rw[NI,g2,VT]
     have lj:(Di ("..":Str) us).length≤62*2:=by rw[IG,sgj];refine A8 (Ov (by decide) λv hv=>?_) (by rw[Ab];omega);obtain⟨o,ho,rfl⟩:=A4.mp hv;have:=(le o ho).1;omega
     have LL:∀k:Nat,k≤200→k≤Ag:=λz hz=>Ik (by omega);refine⟨_,rfl,.inl ⟨rfl,_,SqL.of (tH _ _ h1)⟩,_,rfl,P1.1,_,0,V.str P1.2.1,rfl,rfl,SqT.of (t2 _ _ (hp P1 hm)),Jh (j:=0) rfl,P1.2.1,_,rfl,rfl,LL _ (by rw[Pq];omega),rfl,_,rfl,_,p,us,rfl,rfl,SqL.of g1,SH (by rw[SL];decide) (λz hz=>A8 (hu17 z hz) (by decide)) (by omega),_,_,rfl,rfl,LL _ (by rw[H_,Pq];omega),r,_,_,rfl,rfl,tH _ _ h1,?_,?_⟩
     · rw[Ab];have:=congrArg BC h2;rw[Ab,Ab,AE] at this;exact Il (by omega)
     · refine⟨⟨_,_,rfl⟩,Jn t2 hr',ts++[_],by rw[Ha,Aj];rfl,?_⟩;rw[Aj,h2,Jd hwi,Aj];congr 1;show [sg _]=[K6 P1.2];rw[Mi,Mi,sgj,WY];rfl
 · rintro σ H' ⟨⟨y2,y3,rfl⟩,s,ts,h1,h2⟩;rw[Ab,hlen,AJ (Ae _)] at h2;have hl2:ts.length=w'.length:=by have:=congrArg BC h2;rw[Ab,Ab] at this;exact this
   refine⟨_,rfl,JO,λe he=>?_⟩;have se:=Hc he (.lst []);refine⟨r,e,_,rfl,rfl,se _ _ h1,Ha,_,rfl,?_⟩;cases hts:ts with
   | nil=> rw[hts] at hl2;have hw0:w'=[]:=Ck.mp hl2.symm;exact GW (q _ _ (s.trans se) (by rw[NA,J2,if_pos hw0]))
   | cons t0 tr=>
    have hw0:w'≠[]:=λz=>by rw[z,hts] at hl2;cases hl2
    rw[←hts];refine UN (by rw[hts];rfl) ⟨rfl,_,rfl,_,r,ts,rfl,rfl,SqL.of (se _ _ h1),SH (by rw[Pp];decide) (λt ht=>?_) (by omega),q _ _ (s.trans se) ?_⟩
    · obtain⟨z,hz,e⟩:=A4.mp (show sg t∈w'.map K6 by rw[←h2];exact BM ht);rw[IG,←e];obtain⟨z8,z2,ze⟩:=ok.ok z hz;have:=RF z8 z2 ze;exact this
    · rw[NI,h2,Pf,J2,if_neg hw0]
theorem Zu(F:Fun K "_law_plain" "_law_plain" N_ f fd)(G5:Γ20 P w K mg base)(G6:Γ21 P w K mg base)(M_self:mg "_law_plain"=some (.ref f)):FnOk P w K mg base HH 6 f fd ["bag","deep"] (Mj 2 Op):=by
 have b_self:=F.binds (ps:=["bag","deep"]) λ_ _ _ _ _ _=>lS λ_=>lS λ_=>l0 rfl
 refine RM (L:=2) (D:=2) (O5 F F_ b_self M_self 2 (Op) λn sp0 hsp GC=>?_);refine F.ok F_ (λvs H Q E h=>?_) (λcdv A outer s H vs Q E hr h=>?_)
 · obtain⟨b,g,l,m,rfl,Bg,hn,q⟩:=h;rfl
 obtain⟨b,g,l,m,rfl,Bg,hn,q⟩:=h;refine⟨_,(Hb (Hz (i:=2) F_.nd rfl (Or.inl rfl) (Hm G5 (hr.mono (by omega)) rfl (GU (pv 0) (GU (Hi Jq G_ (Hi LK G_ (JE OU rfl B.int_ Ko (GU (J4 Mf (pv 1) G_ (Hh _)) GV)))) GV))))
  (Hb (HD (Ho Ld (pv 2) G_ (Hh _)) (Hd (Hf (Hy Ig (IC (GU J8 (GU Iv (GU Iv (GU Hq (GU Hq (GU WJ GV))))))) (pv 2) (λ_ _=>rfl)))) HI)
  (Hb (HD (Ho HL (pv 2) G_ (Hh _)) (Hd (Hf (Hm G6 (hr.mono (by omega)) rfl (GU (pv 0) GV)))) HI)
  (Hb (LX (N':=["k","bag","deep"]) (js:=[none,some 0,some 1]) (i:=3) F_.nd rfl (Or.inl rfl) rfl (IV (N:=["bag","deep","choice","some"]) (outer:=Hg N_) (by decide+kernel)) (Kq rfl B.range_ (GU (Hm G5 (hr.mono (by omega)) rfl (GU (pv 0) (GU G_ GV))) GV)) (λ_ _ _ _ _=>(HA (i:=0) Qi rfl (Or.inl rfl))) (λ_ _ _ _ _=>J0) (λ_ _ _ _ _=>(Hm GC (hr.mono (by omega)) rfl (GU (pv 1) (GU (Hi JU (pv 2) G_) GV)))))
  (Hb (HD (Ho HL (pv 2) G_ (Hh _)) (Hd (Hf (pv 3))) HI)
  (Hd (Hf (Jm (Ho HL (pv 2) G_ (Hh _)) (JE Ln rfl B.tuple_ Js (GU (pv 3) GV)) (Wr (WN Hq (pv 3) Wt) rfl rfl (by simp) (by decide)))))))))),?_⟩
 have hc:=RA n;obtain⟨M,hM,M0,M1,Mz⟩:∃M:Int,M=7+3*(if decide ((0:Int)<(n:Int))=true then 1 else 0)∧7≤M∧M≤10∧(n=0→M=7):=by
  by_cases h:(0:Int)<(n:Int)
  · rw[decide_eq_true h];exact⟨10,rfl,by decide,by decide,λz=>absurd h (by omega)⟩
  · rw[decide_eq_false h];exact⟨7,rfl,by decide,by decide,λ_=>rfl⟩
 refine⟨_,rfl,_,rfl,_,_,rfl,rfl,.inr ⟨_,rfl,_,_,rfl,rfl,.inl ⟨by decide,by decide⟩,_,_,rfl,rfl,?_⟩⟩;dsimp only;rw[←hM];have big:M<2^500:=Int.lt_of_le_of_lt M1 (by decide);refine⟨b,g,l,m,M,rfl,Bg,by omega,by omega,big,λc H1 c0 c1 B1 S1=>?_⟩;refine⟨_,rfl,_,_,rfl,rfl,_,rfl,Hx (λh6=>?_) (λh6=>?_)⟩
 · have h6:c<6:=of_decide_eq_true h6;refine λd0 hd0=>?_;have s2:=Hc hd0 (.dK []);have d2:(GZ H1 d0 (.dK [])) d0=some (.dK []):=Ha;have z0:=S1.back B1 d0 hd0;have B2:=B1.same s2;generalize GZ H1 d0 (.dK [])=H2 at*;refine⟨Up,λg0 hg0=>?_⟩;have s3:=Hc hg0 (.lst [V.non,V.bl true,V.bl false,V.str "",V.str "a",V.ref d0]);have g3:(GZ H2 g0 (.lst [V.non,V.bl true,V.bl false,V.str "",V.str "a",V.ref d0])) g0=some (.lst [V.non,V.bl true,V.bl false,V.str "",V.str "a",V.ref d0]):=Ha;have B3:=B2.same s3;have d3:=s3 _ _ d2;generalize GZ H2 g0 (.lst [V.non,V.bl true,V.bl false,V.str "",V.str "a",V.ref d0])=H3 at*;obtain⟨v,d,hv,hrep,hdep,hsz⟩:∃(v:V)(d:DY),Ir [V.non,V.bl true,V.bl false,V.str "",V.str "a",V.ref d0] c=some v∧RepY (nw H H3) d v∧HW d=0∧ShP n d∧(∀x,d= .str x→x.length≤1∧Lw x):=by
    obtain⟨sa1,sa2,sa3,sa4,sa5,sa6⟩:=WZ n;have:c=0∨c=1∨c=2∨c=3∨c=4∨c=5:=by omega
    rcases this with rfl | rfl | rfl | rfl | rfl | rfl
    · exact⟨_,.non,rfl,by rw[RepY],rfl,sa1,λx e=>by cases e⟩
    · exact⟨_,.bl true,rfl,by rw[RepY],rfl,sa2,λx e=>by cases e⟩
    · exact⟨_,.bl false,rfl,by rw[RepY],rfl,sa3,λx e=>by cases e⟩
    · exact⟨_,.str "",rfl,by rw[RepY];exact⟨rfl,by decide⟩,rfl,sa4,λx e=>by cases e;exact⟨by decide,by unfold Lw;decide+kernel⟩⟩
    · exact⟨_,.str "a",rfl,by rw[RepY];exact⟨rfl,by decide⟩,rfl,sa5,λx e=>by cases e;exact⟨by decide,by unfold Lw;decide+kernel⟩⟩
    · exact⟨_,.dic,rfl,by rw[RepY];exact⟨d0,rfl,Lc z0 d3⟩,rfl,sa6,λx e=>by cases e⟩
   refine⟨_,rfl,g0,_,_,_,rfl,rfl,SqL.of g3,hv,?_⟩;exact q v d H3 hrep (by omega) hsz (B3.mono (by omega)) (S1.trans (s2.trans s3).sameB)
 refine⟨_,rfl,rfl,_,rfl,Hx (λh7=>?_) (λh7=>?_)⟩
 · exact⟨_,rfl,b,g,l,_,rfl,B1,by omega,λr H2 r0 r1 B2 S2=>q _ (.int r) _ (by rw[RepY]) (AX _) ⟨VW _ ⟨r0,r1⟩,λx e=>by cases e⟩ (B2.mono (by omega)) (S1.trans S2)⟩
 have h6:¬c<6:=λz=>h6 (decide_eq_true z);have h7:c≠6:=λz=>h7 (decide_eq_true (by rw[z]));cases n with
 | zero=>have:=Mz rfl;omega
 | succ n=>
 have e0:=hsp n rfl;subst e0;have hs:=Xb n;have hc0:=RA n;refine⟨_,rfl,b,g,l,_,4,rfl,B1,by omega,by decide,by decide,λr H2 r0 r1 B2 S2=>?_⟩;refine⟨_,rfl,by omega,by omega,λp hp=>?_⟩;obtain⟨pb,pg,pl⟩:=B2.free hp;have S12:=S1.trans S2;have np:H p=none:=S12.back B2 p hp;have s3:=Hc hp (.lst []);refine Lk (n:=r.toNat) (λi σ' ys H'=>(∃v,σ'=[v,some (.ref b),some (.int ((n:Int)+1))])∧SameB b g H H'∧Bag H' b g l (m+2+Ju n*i)∧H' p=some (.lst ys)∧(∀a,H' a=none→(GZ H2 p (.lst [])) a=none)∧∃ds:List DY,RepYs (nw (GZ H2 p (.lst [])) H') ds ys∧ys.length=i∧∀d∈ds,HW d≤2*n∧ShP n d) ?_ ?_ ?_ ?_
 · exact⟨⟨none,rfl⟩,S12.trans s3.sameB,(B2.same s3).mono (by omega),Ha,λa ha=>ha,[],RepYs.nil,rfl,λd hd=>nomatch hd⟩
 · rintro i σ' ys H' hi ⟨_,_,_,h1,_,ds,_,h2,_⟩;exact⟨h1,by rw[h2];exact Il (by omega)⟩
 · rintro i σ' ys H4 N hi ⟨⟨v,rfl⟩,S4,B4,h1,t4,ds,h2,h3,h4⟩ hN;have hi3:(i:Int)≤2:=by omega
   have mul:Ju n*(i:Int)≤Ju n*2:=CZ hi3 (by omega);refine⟨_,rfl,_,rfl,_,_,rfl,rfl,b,g,l,_,?_,B4,by omega,λx d H5 r5 d5 z5 B5 S5=>?_⟩
   · show [V.ref b,V.int ((n:Int)+1 - 1)]=[V.ref b,V.int (n:Int)];rw[show(n:Int)+1 - 1=(n:Int) by omega]
   have h5:=S5 _ _ h1 pb pg;refine⟨h5,hN _ _ _ ⟨⟨_,rfl⟩,VL (S4.trans S5) np,(Vu B5 pb pg pl).mono (by rw[Int.natCast_succ,Int.mul_add];omega),Ha,λa ha=>?_,ds++[d],?_,?_,?_⟩⟩
   · have:a≠p:=λz=>by rw[z,Ha] at ha;cases ha
     rw[Hk this] at ha;exact t4 a (S5.back B5 a ha)
   · have hP:(GZ H2 p (.lst [])) p≠none:=by rw[Ha];exact Dn _
     have hB:(GZ H2 p (.lst [])) b≠none:=(B2.same s3).trk.1;have hG:(GZ H2 p (.lst [])) g≠none:=(B2.same s3).trk.2;have off:Same (nw (GZ H2 p (.lst [])) H5) (nw (GZ H2 p (.lst [])) (GZ H5 p (.lst (ys++[x])))):=OR λa o z1 z2=>by have:a≠p:=λz=>hP (by rw[z] at z1;exact z1);rw[Hk this];exact z2
     exact(RepYs.same off _ (RepYs.same (WH hB hG S5) _ h2)).append (RepYs.cons (RepY.same off _ (RepY.same (R5 t4) _ r5)) RepYs.nil)
   · rw[A3,h3];rfl
   · intro d' hd';rcases A6.mp hd' with z | z
     · exact h4 d' z
     · rw[Ai.mp z];exact⟨d5,z5.1⟩
 · rintro σ' ys H4 ⟨_,S4,B4,h1,t4,ds,h2,h3,h4⟩;have mul:Ju n*(r.toNat:Int)≤Ju n*3:=CZ (by omega) (by omega);have hl:ys.length≤2500:=by omega
   have tU:∀a,(GZ H2 p (.lst [])) a=none→H a=none:=λa ha=>S12.back B2 a (s3.free ha);have h2':RepYs (nw H H4) ds ys:=RepYs.same (R5 tU) _ h2;have dd:=NR λd hd=>(h4 d hd).1;have dz:∀d∈ds,ShP n d:=λd hd=>(h4 d hd).2;have dl:=h2.length;have dl3:ds.length≤3:=by omega
   refine⟨_,rfl,rfl,_,rfl,Hx (λ_=>?_) (λ_=>?_)⟩
   · exact⟨_,rfl,q _ (.lst ds) _ (LW (Lc np h1) h2' hl) (by rw[HW];omega) ⟨W_ dz dl3,λx e=>by cases e⟩ (B4.mono (by omega)) S4⟩
   refine⟨_,rfl,rfl,_,rfl,Hx (λ_=>?_) (λ_=>?_)⟩
   · refine⟨_,rfl,p,_,rfl,.inl ⟨SqL.of h1,λt ht=>?_⟩⟩;have s5:=Hc ht (.tup ys);exact q _ (.tup ds) _ (Ml (Lc (S4.back B4 t ht) Ha) (RepYs.same (R6 s5) _ h2') hl) (by rw[HW];omega) ⟨VX dz dl3,λx e=>by cases e⟩ ((B4.same s5).mono (by omega)) (S4.trans s5.sameB)
   · refine λd0 hd0=>?_;have s5:=Hc hd0 (.dK []);have z0:=S4.back B4 d0 hd0;obtain⟨db,dg,dl⟩:=B4.free hd0;have dp:d0≠p:=(IE h1 hd0).symm;refine⟨_,rfl,Ha,[(.inr "a",.ref p)],rfl,(by show 1≤15;decide),?_⟩;have s6:Same H4 (GZ (GZ H4 d0 (.dK [])) d0 (.dK (Li [] [(.inr "a",V.ref p)]))):=λa o h=>by
      have:a≠d0:=IE h hd0;rw[Hk this,Hk this];exact h
     have e6:Li [] [((.inr "a":HP),V.ref p)]=[(.inr "a",V.ref p)]:=rfl;refine q _ (.da (.lst ds)) _ (VH (Lc z0 (by rw[Ha,e6])) (LW (Lc np (s6 _ _ h1)) (RepYs.same (R6 s6) _ h2') hl)) (by rw[HW,HW];omega) ⟨Vg dz dl3,λx e=>by cases e⟩ ((B4.same s6).mono (by omega)) (S4.trans s6.sameB)
theorem ZC(F:Fun K "_law_is_field" "_law_is_field" NV f fd)  :FnOk P w K mg base HH 1 f fd ["thing"] (JM Jk):=by
 refine F.ok ZE (λvs H Q E h=>?_) (λcdv A outer s H vs Q E hr h=>?_)
 · obtain⟨v,d,rfl,hd,q⟩:=h;rfl
 obtain⟨v,d,rfl,hd,q⟩:=h;refine⟨_,(Hb (HD (PW.pt (Jb (IM (Iz (Hr (Iy (n:="")) rfl B.isinstance_ HX (GU (pv 0) (GU (HZ (v:= .ty "str") rfl B.str_ KC rfl) GV))))) (Jb (Ho Ld (Hr Lp rfl B.len_ I_ (GU (pv 0) GV)) G_ (Hh _)) (Jz (Ho Mf (Hr Lp rfl B.len_ I_ (GU (pv 0) GV)) G_ (Hh _)))))) (Hd (Hf Iv)) HI)
  (Hd (Hf (J4 (V6 (KM hr)) (JI (N':=["sign"]) (js:=[none]) rfl (IV (N:=["thing"]) (outer:=Hg NV) (by decide+kernel)) (Ni (pv 0)) (λ_ _ _ _ _=>(HA (i:=0) K4 rfl (Or.inl rfl))) (λ_ _ _ _ _=>Mw (Ho TX (pv 0) Hq (by with_unfolding_all rfl))) (λ_ _ _ _ _=>(pv 0))) (IC GV) (Hh _))))),?_⟩
 cases d with
 | str x=>
  rw[RepY] at hd;obtain⟨rfl,hx⟩:=hd;have qf:∀b,J6 x=b→∀H',Same H H'→Q (.bl b) H':=λb e H' s=>by rw[←e];exact q H' s
  refine⟨_,rfl,_,"str","str",true,rfl,.str x,rfl,_,rfl,GW ⟨_,rfl,x,rfl,Ik (by omega),_,_,rfl,rfl,_,rfl,?_⟩⟩;by_cases l1:(x.length:Int)<1
  · rw[decide_eq_true l1];refine GX (qf _ ?_ H (Same.refl _));unfold J6;rw[decide_eq_false (show ¬ 1≤x.length by omega)];rfl
  rw[decide_eq_false l1];refine GW ⟨_,rfl,x,rfl,Ik (by omega),_,_,rfl,rfl,_,rfl,?_⟩;by_cases l8:(8:Int)<(x.length:Int)
  · rw[decide_eq_true l8];refine GX (qf _ ?_ H (Same.refl _));unfold J6;rw[decide_eq_false (show ¬x.length≤8 by omega),CG];rfl
  rw[decide_eq_false l8];refine GW ⟨_,rfl,x,rfl,λp hp=>?_⟩;have sl:(L2.signs x).length=x.length:=by unfold L2.signs;rw[Ab,Ar];rfl
  refine Nr (xs:=L2.signs x) (λi σ' ys H'=>(∃v,σ'=[v])∧Same H H'∧H' p=some (.lst ys)∧ys=(((x.cps.toList.take i).filter λc=>!IX c).map λc=>(⟨#[c]⟩:Str)).map V.str) ⟨⟨none,rfl⟩,Hc hp _,Ha,rfl⟩ ?_ ?_ ?_
  · rintro i σ' ys H' hi ⟨_,_,h1,h2⟩;refine⟨h1,?_⟩;rw[h2,Ab,Ab];have:=C6 (λc=>!IX c) (x.cps.toList.take i);rw[AE] at this;exact Il (by omega)
  · rintro i y σ' ys H' N hy ⟨⟨v,rfl⟩,s,h1,h2⟩ hN;unfold L2.signs at hy;rw[Ay] at hy;cases hc:x.cps.toList[i]? with
    | none=>rw[hc] at hy;cases hy
    | some c=>
     rw[hc] at hy;obtain rfl:V.str ⟨#[c]⟩=y:=Am hy;refine⟨_,rfl,_,_,rfl,rfl,_,rfl,?_⟩;rw[U1];cases hb:IX c with
     | true=> refine GW (hN _ _ _ ⟨⟨_,rfl⟩,s,h1,?_⟩);rw[h2,Jd hc,Cw,Cq,if_neg (by rw[hb];decide)];simp
     | false=> refine GX ⟨_,rfl,h1,hN _ _ _ ⟨⟨_,rfl⟩,Jn s hp,Ha,?_⟩⟩;rw[h2,Jd hc,Cw,Cq,if_pos (by rw[hb];decide)];simp
  · rintro σ' ys H' ⟨_,s,h1,h2⟩;refine⟨JO,λe he=>U9 (ts:=(x.cps.toList.filter λc=>!IX c).map λc=>(⟨#[c]⟩:Str)) (SqL.of (Hc he _ _ _ (by rw[h1,h2,AJ (by rw[sl];exact Nat.le_of_eq (Ar ..))]))) (SqL.of Ha) ?_⟩;rw[YY];refine qf _ ?_ _ (s.trans (Hc he _));unfold J6;rw[decide_eq_true (show 1≤x.length by omega),decide_eq_true (show x.length≤8 by omega)];rfl
 | _=>exact⟨_,rfl,_,_,"str",false,rfl,hd.ty,rfl,_,rfl,GX (q _ (Same.refl _))⟩
theorem Zy(F:Fun K "_law_is_span" "_law_is_span" PK f fd)(GD:Γ24 P w K mg base):FnOk P w K mg base HH 2 f fd ["low","high"] (RW):=by
 refine F.ok Ga (λvs H Q E h=>?_) (λcdv A outer s H vs Q E hr h=>?_)
 · obtain⟨v1,v2,d1,d2,rfl,r1,r2,q⟩:=h;rfl
 obtain⟨v1,v2,d1,d2,rfl,r1,r2,q⟩:=h;refine⟨_,(Hb (KH BY rfl (Kg (IC (GU (pv 0) (GU (pv 1) GV)))) (HA (i:=2) Ga.nd rfl (Or.inl rfl)) (Hd (HD (PW.pt (KI (Mh (Wq (pv 2))) (KJ (IM (Iz (Hm GD (hr.mono (by decide)) rfl (GU (pv 2) GV))))))) (Hd (Hf Iv)) HI)))
  (Hd (Hf (K9 (LM (J_ (pv 0))) (K9 (LM (J_ (pv 1))) (Jy (J4 LH (pv 0) (pv 1) (Hh _)))))))),?_⟩
 refine⟨_,rfl,_,rfl,Ii,λp hp=>?_⟩;have s0:=Hc hp (.lst [v1,v2]);have p0:(GZ H p (.lst [v1,v2])) p=some (.lst [v1,v2]):=Ha;generalize GZ H p (.lst [v1,v2])=H0 at*;have q0:∀b,(HE d1 && HE d2 && Lx d1 d2)=b→Q (.bl b) H0:=λb e=>by rw[←e];exact q H0 s0
 have k1:=RepY.same s0 d1 r1;have k2:=RepY.same s0 d2 r2;refine⟨p,rfl,⟨_,SqL.of p0⟩,My (K:=K) (a:=p) (xs:=[v1,v2]) (λi σ H'=>(∃w,σ=[some v1,some v2,w])∧H'=H0∧(0<i→HE d1=true)∧(1<i→HE d2=true)) ⟨⟨none,rfl⟩,rfl,λz=>absurd z (by decide),λz=>absurd z (by decide)⟩ (λi σ H' _ ⟨_,e,_⟩=>by rw[e];exact SqL.of p0) ?_ ?_⟩
 · rintro i z σ H' hz ⟨⟨w,rfl⟩,rfl,e1,e2⟩;obtain⟨e,re,hF,hT⟩:∃e,RepY H' e z∧(HE e=false→Q (.bl false) H')∧(HE e=true→(0<i+1→HE d1=true)∧(1<i+1→HE d2=true)):=by
    match i,hz with
    | 0,hz=> obtain rfl:v1=z:=Am hz;exact⟨d1,k1,λh=>q0 _ (by rw[h];rfl),λh=>⟨λ_=>h,λz=>absurd z (by decide)⟩⟩
    | 1,hz=> obtain rfl:v2=z:=Am hz;exact⟨d2,k2,λh=>q0 _ (by rw[h,CG];rfl),λh=>⟨λ_=>e1 (by decide),λ_=>h⟩⟩
    | i+2,hz=>simp at hz
   have ty:=RepY.ty (K:=K) re;cases e with
   | non=> rw[RepY] at re;subst re;exact⟨_,rfl,_,rfl,GW ⟨⟨_,rfl⟩,rfl,hT rfl⟩⟩
   | int n=> rw[RepY] at re;subst re;exact⟨_,rfl,_,rfl,GX ⟨_,rfl,_,"int",rfl,.int n,_,rfl,GW ⟨⟨_,rfl⟩,rfl,hT rfl⟩⟩⟩
   | bl n=>rw[RepY] at re;subst re;exact⟨_,rfl,_,rfl,GX ⟨_,rfl,_,"bool",rfl,.bl n,_,rfl,GX (hF rfl)⟩⟩
   | str n=>rw[RepY] at re;obtain⟨rfl,_⟩:=re;exact⟨_,rfl,_,rfl,GX ⟨_,rfl,_,"str",rfl,.str n,_,rfl,GX (hF rfl)⟩⟩
   | lst n=>rw[RepY] at re;obtain⟨c,us,rfl,hc,_⟩:=re;exact⟨_,rfl,_,rfl,GX ⟨_,rfl,_,"list",rfl,.lst hc,_,rfl,GX (hF rfl)⟩⟩
   | tup n=>rw[RepY] at re;obtain⟨c,us,rfl,hc,_⟩:=re;exact⟨_,rfl,_,rfl,GX ⟨_,rfl,_,"tuple",rfl,.tup hc,_,rfl,GX (hF rfl)⟩⟩
   | dic=>rw[RepY] at re;obtain⟨c,rfl,hc⟩:=re;exact⟨_,rfl,_,rfl,GX ⟨_,rfl,_,"dict",rfl,.dK hc,_,rfl,GX (hF rfl)⟩⟩
   | da n=>rw[RepY] at re;obtain⟨c,u,rfl,hc,_⟩:=re;exact⟨_,rfl,_,rfl,GX ⟨_,rfl,_,"dict",rfl,.dK hc,_,rfl,GX (hF rfl)⟩⟩
 · rintro σ H' ⟨⟨w,rfl⟩,rfl,e1,e2⟩;have z1:=e1 (by show 0<2;decide);have z2:=e2 (by show 1<2;decide);refine⟨_,rfl,_,rfl,?_⟩;cases d1 with
   | non=> rw[RepY] at r1;subst r1;exact GX (q0 _ (by rw[z2];rfl))
   | int m=>
    rw[RepY] at r1;subst r1;refine GW ⟨_,rfl,_,rfl,?_⟩;cases d2 with
    | non=> rw[RepY] at r2;subst r2;exact GX (q0 _ rfl)
    | int m2=> rw[RepY] at r2;subst r2;exact GW ⟨_,rfl,_,rfl,_,_,rfl,rfl,q0 _ rfl⟩
    | _=>cases z2
   | _=>cases z1
theorem Zx(F:Fun K "_law_is_made" "_law_is_made" PJ f fd)(GE:Γ31 P w K mg base)(GF:Γ32 P w K mg base)(GD:Γ24 P w K mg base):FnOk P w K mg base HH 3 f fd ["thing","size"] (Re):=by
 refine F.ok Gb (λvs H Q E h=>?_) (λcdv A outer s H vs Q E hr h=>?_)
 · obtain⟨v,d,k,rfl,hk,hd,q⟩:=h;rfl
 obtain⟨v,d,k,rfl,hk,hd,q⟩:=h;refine⟨_,(Hb (HD (IM (Iz (Hr (Iy (n:="")) rfl B.isinstance_ HX (GU (pv 0) (GU (HZ (v:= .ty "tuple") rfl B.tuple_ Js rfl) GV))))) (Hd (Hf Iv)) HI)
  (Hb (KH BY rfl (Kq rfl B.range_ (GU (Hr JN rfl B.len_ I_ (GU (pv 0) GV)) GV)) (HA (i:=2) Gb.nd rfl (Or.inl rfl)) (Hb (Hz (i:=3) Gb.nd rfl (Or.inl rfl) (Hy Jl (pv 0) (pv 2) (λ_ _=>rfl)))
  (Hb (HD (PW.pt (Jb (IM (Iz (Hr (Iy (n:="")) rfl B.isinstance_ HX (GU (pv 3) (GU (HZ (v:= .ty "tuple") rfl B.tuple_ Js rfl) GV))))) (Jb (Ho JH (Hr JN rfl B.len_ I_ (GU (pv 3) GV)) (pv 1) (Hh _)) (Jz (IM (Iz (Hm GE (hr.mono (by decide)) rfl (GU (Hy Jl (pv 3) G_ (λ_ _=>rfl)) GV)))))))) (Hd (Hf Iv)) HI)
  (Hb (HD (PW.pt (KI (Ho Mf (pv 2) G_ (Hh _)) (KJ (IM (Ho Th (Hy Jl (Hy Jl (pv 0) (Hi JU (pv 2) G_) (λ_ _=>rfl)) G_ (λ_ _=>rfl)) (Hy Jl (pv 3) G_ (λ_ _=>rfl)) (Hh _)))))) (Hd (Hf Iv)) HI)
  (Hd (HD (PW.pt (Jb (PW.pt (KI (Ho HL (pv 1) G_ (Hh _)) (KJ (IM (Iz (Hm GF (hr.mono (by decide)) rfl (GU (Hy Jl (pv 3) G_ (λ_ _=>rfl)) (GU (Hy Jl (pv 3) G_ (λ_ _=>rfl)) GV)))))))) (Jz (PW.pt (KI (Ho HL (pv 1) G_ (Hh _)) (KJ (IM (Iz (Hm GD (hr.mono (by decide)) rfl (GU (Hy Jl (pv 3) G_ (λ_ _=>rfl)) GV)))))))))) (Hd (Hf Iv)) HI))))))
  (Hd (Hf Iv)))),?_⟩
 cases d with
 | tup ds=>
  have hd0:=hd;rw[RepY] at hd;obtain⟨a,xs,rfl,ha,h9,hx⟩:=hd;have hl:=hx.length;have qF:∀H',Same H H'→JC k (.tup ds)=false→Q (.bl false) H':=λH' s e=>by rw[←e];exact q H' s
  have fPart:∀i d,ds[i]?=some d→Ja k d=false→JC k (.tup ds)=false:=λi d e h=>by show(ds.all (Ja k) && HY ds)=false;have:ds.all (Ja k)=false:=FJ.mpr ⟨d,AA e,by rw[h];exact Aw⟩;rw[this];rfl
  have fAsc:∀i,i+1<ds.length→Iu (ds.getD i .non) (ds.getD (i+1) .non)=false→JC k (.tup ds)=false:=λi hi h=>by
   show(ds.all (Ja k) && HY ds)=false;have:HY ds=false:=by rw[N7];exact FJ.mpr ⟨_,A4.mpr ⟨i,Cc.mpr (by omega),rfl⟩,by rw[h];exact Aw⟩
   rw[this,CG]
  refine⟨_,rfl,_,"tuple","tuple",true,rfl,.tup ha,rfl,_,rfl,GW ?_⟩;refine⟨_,rfl,a,_,rfl,.inr (SqT.of ha),_,rfl,by omega,by omega,OW (n:=((xs.length:Nat):Int).toNat) (λi σ H'=>(∃y2 y3,σ=[some (.ref a),some (.int k),y2,y3])∧Same H H'∧(∀j d,j<i→ds[j]?=some d→Ja k d=true)∧∀j,j+1<i→Iu (ds.getD j .non) (ds.getD (j+1) .non)=true) ⟨⟨none,none,rfl⟩,Same.refl _,λj d h=>absurd h (DV _),λj h=>absurd h (DV _)⟩ ?_ ?_⟩
  · rintro i σ H1 hi ⟨⟨y2,y3,rfl⟩,s1,hp,hA⟩;have hi2:i<ds.length:=by omega
    obtain⟨d,x,ed,ex,rd⟩:=hx.getD hi2;have rd1:=RepY.same s1 d rd;have e0:(0:Int)+(i:Int)=(i:Int):=by omega
    have hat:Ir xs (0+(i:Int))=some x:=by rw[e0];exact Jh ex
    have eg:ds.getD i .non=d:=by rw[Bs,ed];rfl
    have bad:∀H',Same H1 H'→Ja k d=false→Q (.bl false) H':=λH' s e=>qF H' (s1.trans s) (fPart i d ed e);refine⟨_,rfl,_,rfl,a,_,_,_,rfl,rfl,SqT.of (s1 _ _ ha),hat,?_⟩;have notTup:(∀es,d≠ .tup es)→Ja k d=false:=λh=>by
     unfold Ja;cases d with
     | tup es=>exact absurd rfl (h es)
     | _=>split<;>rfl
    have out:∀H',Same H1 H'→Ja k d=true→(∀j,j+1=i→Iu (ds.getD j .non) d=true)→(∃y2 y3,([some (.ref a),some (.int k),some (.int (0+(i:Int))),some x]:L2.St)=[some (.ref a),some (.int k),y2,y3])∧Same H H'∧(∀j d,j<i+1→ds[j]?=some d→Ja k d=true)∧∀j,j+1<i+1→Iu (ds.getD j .non) (ds.getD (j+1) .non)=true:=λH' s e1 e2=>by
     refine⟨⟨_,_,rfl⟩,s1.trans s,λj d' hj e=>?_,λj hj=>?_⟩
     · by_cases z:j=i
       · rw[z,ed] at e;injection e with e
         rw[←e];exact e1
       · exact hp j d' (by omega) e
     · by_cases z:j+1=i
       · rw[z,eg];exact e2 j z
       · exact hA j (by omega)
    cases d with
    | tup es=>
     rw[RepY] at rd1;obtain⟨c,us,rfl,hc,_,hu⟩:=rd1;have lu:=hu.length;refine⟨_,rfl,_,"tuple","tuple",true,rfl,.tup hc,rfl,_,rfl,GW ⟨_,rfl,c,_,rfl,.inr (SqT.of hc),_,rfl,rfl,_,rfl,?_⟩⟩;by_cases hlen:(es.length:Int)=k
     · have e3:V.int ((us.length:Nat):Int)=V.int k:=by rw[lu,hlen]
       rw[decide_eq_true e3];refine GW ?_;obtain⟨f,r,rfl⟩:∃f r,es=f::r:=by
        cases es with
        | nil=>rcases hk with h | h<;>(rw[h] at hlen;cases hlen)
        | cons f r=>exact⟨f,r,rfl⟩
       have hu0:=hu;rw[RepYs] at hu;obtain⟨uf,ur,rfl,rf,rr⟩:=hu;refine⟨_,rfl,c,_,0,uf,rfl,rfl,SqT.of hc,KR,uf,f,rfl,rf,λH2 s2=>⟨_,rfl,?_⟩⟩;have badF:Jk f=false→Ja k (.tup (f::r))=false:=λh=>by
        unfold Ja;rcases hk with rfl | rfl
        · rw[if_neg (by decide)]
          match r,hlen with
          | [m],_=>show(Jk f && Kb m)=false;rw[h];rfl
        · rw[if_pos rfl]
          match r,hlen with
          | [m,m'],_=>show(Jk f && KA (.tup [m,m']))=false;rw[h];rfl
       cases hf:Jk f with
       | false=>exact GX (bad H2 s2 (badF hf))
       | true=>
        obtain⟨w,rfl,hw⟩:=Pw hf;rw[RepY] at rf;obtain⟨rfl,_⟩:=rf;refine GW ?_;have hc2:=s2 _ _ hc;have S2:=s1.trans s2;dsimp only[Oq];refine PL (λbb H'=>Same H2 H'∧(bb=true→JC k (.tup ds)=false)∧(bb=false→∀j,j+1=i→Iu (ds.getD j .non) (.tup (.str w::r))=true)) (λR hR=>?_) (λH3 ⟨s3,h3,_⟩=>qF H3 (S2.trans s3) (h3 rfl)) (λH3 ⟨s3,_,h3⟩=>?_)
        · refine⟨_,rfl,_,_,rfl,rfl,_,rfl,Hx (λh=>?_) (λh=>hR _ H2 ⟨Same.refl _,λz=>(Aw z).elim,λ_ j z=>absurd (decide_eq_true (show(0:Int)<0+(i:Int) by omega)) h⟩)⟩;have h:(0:Int)<0+(i:Int):=of_decide_eq_true h;obtain⟨j,rfl⟩:∃j,i=j+1:=⟨i - 1,by omega⟩;obtain⟨d',x',ed',ex',rd'⟩:=hx.getD (show j<ds.length by omega);have pd:=hp j d' (by omega) ed';have hd':(JG d').isSome=true:=by
           unfold Ja at pd
           split at pd
           · exact TK pd
           · exact T9 pd
          obtain⟨w',hw'⟩:=CI.mp hd';obtain⟨c',t',rfl,hc'⟩:=OM (RepY.same S2 d' rd') hw';have e1:(0:Int)+((j+1:Nat):Int) - 1=(j:Int):=by omega
          have hat':Ir xs ((0:Int)+((j+1:Nat):Int) - 1)=some (.ref c'):=by rw[e1];exact Jh ex'
          have eg':ds.getD j .non=d':=by rw[Bs,ed'];rfl
          refine⟨_,rfl,_,rfl,_,_,rfl,rfl,a,_,_,_,rfl,rfl,SqT.of (S2 _ _ ha),hat',c',_,0,_,rfl,rfl,SqT.of hc',KR,_,rfl,c,_,0,_,rfl,rfl,SqT.of hc2,KR,_,_,rfl,rfl,_,rfl,?_⟩;have ea:Iu (ds.getD j .non) (.tup (.str w::r))=decide (w'.cps.toList<w.cps.toList):=by rw[eg'];exact RK hw' rfl
          refine hR _ H2 ⟨Same.refl _,λz=>fAsc j hi2 ?_,λz j' zj=>?_⟩
          · rw[eg,ea];simpa using z
          · obtain rfl:j'=j:=by omega
            rw[ea];simpa using z
        · have hc3:=s3 _ _ hc2;have S13:=s2.trans s3;rcases hk with rfl | rfl
          · obtain⟨m,rfl⟩:∃m,r=[m]:=by
             match r,hlen with
             | [m],_=>exact⟨m,rfl⟩
            rw[RepYs] at rr;obtain⟨um,ur2,rfl,rm,rr⟩:=rr;rw[RepYs] at rr;subst rr;have pe:Ja 2 (.tup [.str w,m])=Kb m:=by show(J6 w && Kb m)=Kb m;rw[hw];rfl
            refine⟨_,rfl,rfl,_,rfl,GW ⟨_,rfl,rfl,_,rfl,GX ?_⟩⟩;refine⟨_,rfl,c,_,1,um,rfl,rfl,SqT.of hc3,rfl,um,_,rfl,(RepY.same S13 m rm).ty,_,rfl,?_⟩;rw[Tf];cases hm:Kb m with
            | false=>exact GX (bad H3 S13 (by rw[pe,hm]))
            | true=>exact GW (out H3 S13 (by rw[pe,hm]) (h3 rfl))
          · obtain⟨m,m',rfl⟩:∃m m',r=[m,m']:=by
             match r,hlen with
             | [m,m'],_=>exact⟨m,m',rfl⟩
            obtain⟨um,um',rfl,rm,rm'⟩:=rr.two;have pe:Ja 3 (.tup [.str w,m,m'])=(HE m && HE m' && Lx m m'):=by show(J6 w && KA (.tup [m,m']))=_;rw[hw];rfl
            refine⟨_,rfl,rfl,_,rfl,GX ?_⟩;refine⟨_,rfl,c,_,1,um,rfl,rfl,SqT.of hc3,rfl,_,rfl,c,_,2,um',rfl,rfl,SqT.of hc3,rfl,um,um',m,m',rfl,RepY.same S13 m rm,RepY.same S13 m' rm',λH4 s4=>⟨_,rfl,?_⟩⟩;cases hm:(HE m && HE m' && Lx m m') with
            | false=>exact GX (bad H4 (S13.trans s4) (by rw[pe,hm]))
            | true=>exact GW ⟨_,rfl,rfl,_,rfl,GW (out H4 (S13.trans s4) (by rw[pe,hm]) (h3 rfl))⟩
     · have e3:¬V.int ((us.length:Nat):Int)=V.int k:=λz=>hlen (by injection z with z;omega)
       rw[decide_eq_false e3];refine GX (bad H1 (Same.refl _) ?_);unfold Ja;rcases hk with rfl | rfl
       · rw[if_neg (by decide)];exact To (by omega)
       · rw[if_pos rfl];exact Tg (by omega)
    | _=>exact⟨_,rfl,_,_,"tuple",false,rfl,rd1.ty,rfl,_,rfl,GX (bad H1 (Same.refl _) (notTup λes z=>by cases z))⟩
  · rintro σ H1 ⟨_,s1,hp,hA⟩;refine(show JC k (.tup ds)=true→Q (.bl true) H1 from λe=>by rw[←e];exact q H1 s1) ?_;show(ds.all (Ja k) && HY ds)=true;have h1:ds.all (Ja k)=true:=Cs.mpr λd hd=>by
     obtain⟨j,hj⟩:=F9 hd;exact hp j d (by have:=(AM.mp hj).1;omega) hj
    have h2:HY ds=true:=by rw[N7];refine Cs.mpr λb hb=>?_;obtain⟨j,hj,rfl⟩:=A4.mp hb;have:=Cc.mp hj;exact hA j (by omega)
    rw[h1,h2];rfl
 | _=>exact⟨_,rfl,_,_,"tuple",false,rfl,hd.ty,rfl,_,rfl,GX (q _ (Same.refl _))⟩
theorem Zv(F:Fun K "_law_value" "_law_value" Oa f fd)  :FnOk P w K mg base HH 1 f fd ["word"] (Rh):=by
 refine F.ok Gc (λvs H Q E h=>?_) (λcdv A outer s H vs Q E hr h=>?_)
 · obtain⟨x,rfl,hl,q⟩:=h;rfl
 obtain⟨x,rfl,hl,q⟩:=h;refine⟨_,(Hb (Hz (i:=1) Gc.nd rfl (Or.inl rfl) (Jm (Ho HL (Kp Xa (pv 0) Kv (Kw G_)) Hq (Hh _)) (Kp So (pv 0) (Kw G_) Kv) (pv 0)))
  (Hb (HD (PW.pt (Jb (Ho HL (pv 1) Hq (Hh _)) (Jb (Ho Mf (Hr Lp rfl B.len_ I_ (GU (pv 1) GV)) G_ (Hh _)) (Jz (Ho (Oy (KM hr)) (JI (N':=["sign"]) (js:=[none]) rfl (IV (N:=["word","figures"]) (outer:=Hg Oa) (by decide+kernel)) (Ni (pv 1)) (λ_ _ _ _ _=>(HA (i:=0) K4 rfl (Or.inl rfl))) (λ_ _ _ _ _=>Mw (Ho TX (pv 0) Hq (by with_unfolding_all rfl))) (λ_ _ _ _ _=>(pv 0))) (IC GV) (Hh _)))))) (Hd (Hf J8)) HI)
  (Hd (Hf (Jm (PW.pt (Jb (Ho JH (Hy LS (pv 1) G_ (λ_ _=>rfl)) Hq (Hh _)) (Jz (Ho HL (pv 0) Hq (Hh _))))) (JE Ta rfl B.int_ Ko (GU (pv 0) GV)) J8))))),?_⟩
 have lx:x.length=(sg x).length:=IG x;have hd45:(sg x).head?=some 45→∃r,sg x=45::r:=λh=>by
  cases es:sg x with
  | nil=>rw[es] at h;cases h
  | cons c r=>rw[es] at h;have:c=45:=Am h;exact⟨r,by rw[this]⟩
 refine Nl (λσ' H'=>∃f:Str,σ'=[some (V.str x),some (V.str f)]∧H'=H∧sg f=Hv (sg x)) (λZ hZ=>?_) ?_
 · refine⟨_,rfl,_,rfl,x,rfl,rfl,rfl,by omega,λz hz=>⟨rfl,_,rfl,?_⟩⟩;by_cases hn:(sg x).head?=some 45
   · obtain⟨r,er⟩:=hd45 hn;rw[decide_eq_true (show V.str z=V.str ("-":Str) from congrArg V.str (Ka (by rw[hz,er,NA];rfl)))];exact GX ⟨_,rfl,_,rfl,x,rfl,rfl,rfl,by rw[lx,er,Ax];omega,by omega,λf hf=>hZ _ _ ⟨f,rfl,rfl,by rw[hf,List.drop_one];exact(if_pos hn).symm⟩⟩
   · rw[decide_eq_false (show ¬V.str z=V.str ("-":Str) from λe=>hn (by
      injection e with e
      rw[e,NA] at hz;cases es:sg x with
      | nil=>rw[es] at hz;cases hz
      | cons c r=>rw[es] at hz;injection hz with h1 _;rw[←h1];rfl))]
     exact GW ⟨_,rfl,hZ _ _ ⟨x,rfl,rfl,(if_neg hn).symm⟩⟩
 rintro σ' H' ⟨f,rfl,rfl,ef⟩;have lf:f.length=(Hv (sg x)).length:=by rw[IG,ef]
 have lf2:(Hv (sg x)).length≤x.length:=by
  unfold Hv
  split
  · rw[List.length_tail];omega
  · omega
 have qN:Ht (sg x)=none→∀H1,Same H' H1→Q .non H1:=λe H1 s=>by have:=q H1 s;rw[e] at this;exact this
 refine⟨_,rfl,rfl,_,rfl,?_⟩;by_cases f0:f=("":Str)
 · rw[decide_eq_true (show V.str f=V.str ("":Str) by rw[f0])];exact GX (qN (ON (.inl (by rw[←ef,f0];exact sg_nil))) _ (Same.refl _))
 rw[decide_eq_false (show ¬V.str f=V.str ("":Str) from λe=>f0 (by injection e))];have fne:Hv (sg x)≠[]:=λz=>f0 (Ka (by rw[ef,z];exact sg_nil.symm));refine GW ⟨_,rfl,f,rfl,Ik (by omega),_,_,rfl,rfl,_,rfl,?_⟩;by_cases f15:(15:Int)<(f.length:Int)
 · rw[decide_eq_true f15];exact GX (qN (ON (.inr (.inl (by omega)))) _ (Same.refl _))
 rw[decide_eq_false f15];refine GW ⟨_,rfl,f,rfl,λp hp=>?_⟩;have sl:(L2.signs f).length=f.length:=by unfold L2.signs;rw[Ab,Ar];rfl
 refine Nr (xs:=L2.signs f) (λi σ' ys H1=>(∃v,σ'=[v])∧Same H' H1∧H1 p=some (.lst ys)∧ys=(((sg f).take i).filter λc=>!HB c).map λc=>V.str (⟨#[c]⟩:Str)) ⟨⟨none,rfl⟩,Hc hp _,Ha,rfl⟩ ?_ ?_ ?_
 · rintro i σ' ys H1 hi ⟨_,_,h1,h2⟩;refine⟨h1,?_⟩;rw[h2,Ab];have:=C6 (λc=>!HB c) ((sg f).take i);rw[AE] at this;exact Il (by omega)
 · rintro i y σ' ys H1 N hy ⟨⟨v,rfl⟩,s,h1,h2⟩ hN;unfold L2.signs at hy;rw[Ay] at hy;cases hc:f.cps.toList[i]? with
   | none=>rw[hc] at hy;cases hy
   | some c=>
    rw[hc] at hy;obtain rfl:V.str ⟨#[c]⟩=y:=Am hy;refine⟨_,rfl,_,_,rfl,rfl,_,rfl,?_⟩;rw[U6];have hc':(sg f)[i]?=some c:=hc
    change (if(!HB c)=true then _ else _)
    cases hb:HB c with
    | true=> refine GW (hN _ _ _ ⟨⟨_,rfl⟩,s,h1,?_⟩);rw[h2,Jd hc',Cw,Cq,if_neg (by rw[hb];decide)];simp
    | false=> refine GX ⟨_,rfl,h1,hN _ _ _ ⟨⟨_,rfl⟩,Jn s hp,Ha,?_⟩⟩;rw[h2,Jd hc',Cw,Cq,if_pos (by rw[hb];decide)];simp
 · rintro σ' ys H1 ⟨_,s,h1,h2⟩;rw[sl,IG,BR] at h2;refine⟨JO,λe he=>?_⟩;have se:=Hc he (.lst []);refine⟨p,e,ys,rfl,rfl,se _ _ h1,Ha,_,rfl,?_⟩;have t1:=s.trans se;cases hall:(sg f).all HB with
   | false=>
    have:ys.isEmpty=false:=by
     obtain⟨c,hc,hb⟩:=List.all_eq_false.mp hall;rw[h2];cases hh:(sg f).filter (λc=>!HB c) with
     | nil=> have hm:c∈(sg f).filter (λc=>!HB c):=List.mem_filter.mpr ⟨hc,by rw[Bool.not_eq_true] at hb;rw[hb];rfl⟩;rw[hh] at hm;cases hm
     | cons a b=>rfl
    rw[this];exact GX (qN (ON (.inr (.inr (by rw[←ef];exact hall)))) _ t1)
   | true=>
    have:ys.isEmpty=true:=by
     rw[h2];cases hh:(sg f).filter (λc=>!HB c) with
     | nil=>rfl
     | cons a b=>
      have hm:a∈(sg f).filter (λc=>!HB c):=by rw[hh];simp
      obtain⟨m1,m2⟩:=List.mem_filter.mp hm;rw[Cs.mp hall a m1] at m2;cases m2
    rw[this];refine GW ?_;cases es:sg f with
    | nil=>exact absurd (ef.symm.trans es) fne
    | cons c r=>
     have ok:=We (x:=x) fne (by omega) (by rw[←ef];exact hall);have done:((Hv (sg x)).head?≠some 48∨sg x=[48])→Ma (λxs H Q=>∃x n,xs=[V.str x]∧x.length≤640∧Fz x=some n∧Q (V.int n) H) (Jw (Ia 0) Im) [some (V.str x),some (V.str f)] (GZ H1 e (HO.lst [])) Q:=λh0=>by have:=q _ t1;rw[WD fne (by omega) (by rw[←ef];exact hall) h0] at this;exact⟨_,rfl,x,_,rfl,ok.2,ok.1,this⟩
     refine⟨_,rfl,f,_,c,rfl,rfl,Ik (by omega),?_,rfl,_,rfl,?_⟩
     · refine Jh (j:=0) ?_;show(sg f)[0]?=_;rw[es];rfl
     · by_cases hc:c=48
       · subst hc;rw[decide_eq_true (show V.str (⟨#[48]⟩:Str)=V.str ("0":Str) from congrArg V.str (Ka (by rw[Ki];rfl)))];refine GW ⟨_,rfl,rfl,_,rfl,?_⟩;by_cases x0:x=("0":Str)
         · rw[decide_eq_true (show V.str x=V.str ("0":Str) by rw[x0])];exact GX (done (.inr (by rw[x0];exact Ki)))
         · rw[decide_eq_false (show ¬V.str x=V.str ("0":Str) from λz=>x0 (by injection z))];exact GW (qN (WE (by rw[←ef,es];rfl) λz=>x0 (Ka (by rw[z,Ki]))) _ t1)
       · rw[decide_eq_false (show ¬V.str (⟨#[c]⟩:Str)=V.str ("0":Str) from λz=>by
          injection z with z
          have:=congrArg sg z;rw[Ki] at this;injection this with h _
          exact hc h)]
         exact GX (done (.inl (by rw[←ef,es];intro z;exact hc (by injection z))))
theorem Zz(F:Fun K "_law_part_of" "_law_part_of" M2 f fd)(GG:Γ34 P w K mg base):FnOk P w K mg base HH 2 f fd ["word","size"] (QF):=by
 refine F.ok Gd (λvs H Q E h=>?_) (λcdv A outer s H vs Q E hr h=>?_)
 · obtain⟨x,k,rfl,hk,hl,q1,q2⟩:=h;rfl
 obtain⟨x,k,rfl,hk,hl,q1,q2⟩:=h;refine⟨_,(Hb (JK (Iw A5 Bc Bd KN (pv 0) (GU Hq GV)) (Kn rfl (Ix (HA (i:=2) Gd.nd rfl (Or.inl rfl)) (Ix (HA (i:=3) Gd.nd rfl (Or.inl rfl)) (Ix (HA (i:=4) Gd.nd rfl (Or.inl rfl)) Ku)))))
  (Hb (JK (Iw A5 Bc Bd KN (pv 4) (GU Hq GV)) (Kn rfl (Ix (HA (i:=5) Gd.nd rfl (Or.inl rfl)) (Ix (HA (i:=6) Gd.nd rfl (Or.inl rfl)) (Ix (HA (i:=7) Gd.nd rfl (Or.inl rfl)) Ku)))))
  (Hb (Hz (i:=8) Gd.nd rfl (Or.inr rfl) (Jm (Ho HL (pv 1) G_ (Hh _)) (IC (GU (pv 5) (GU (pv 7) GV))) (IC (GU (pv 4) GV))))
  (Hb (Hz (i:=9) Gd.nd rfl (Or.inr rfl) (JI (N':=["end","size"]) (js:=[none,some 1]) rfl (IV (N:=["word","size","field","sign","rest","low","dots","high","ends","values","lacks"]) (outer:=Hg M2) (by decide+kernel)) (Kg (pv 8)) (λ_ _ _ _ _=>(HA (i:=0) MS rfl (Or.inl rfl))) (λ_ _ _ _ _=>J0) (λ_ _ _ _ _=>(Jm (PW.pt (KI (Ho HL (pv 0) Hq (Hh _)) (KJ (Ho HL (pv 1) G_ (Hh _))))) J8 (Hm GG (hr.mono (by decide)) rfl (GU (pv 0) GV))))))
  (Hb (LX (N':=["k","size","ends","values"]) (js:=[none,some 1,some 8,some 9]) (i:=10) Gd.nd rfl (Or.inl rfl) rfl (IV (N:=["word","size","field","sign","rest","low","dots","high","ends","values","lacks"]) (outer:=Hg M2) (by decide+kernel)) (Kq rfl B.range_ (GU (Hr JN rfl B.len_ I_ (GU (pv 8) GV)) GV)) (λ_ _ _ _ _=>(HA (i:=0) MR rfl (Or.inl rfl))) (λ_ _ _ _ _=>Mw (PW.pt (KI (Mh (J_ (Hy (SG K rfl) (pv 3) (pv 0) (λ_ _=>rfl)))) (KJ (PW.pt (Jb (Ho JH (Hy (SG K rfl) (pv 2) (pv 0) (λ_ _=>rfl)) Hq (Hh _)) (Jz (Ho HL (pv 1) G_ (Hh _))))))))) (λ_ _ _ _ _=>(pv 0)))
  (Hb (HD (PW.pt (Jb (Ho HL (pv 3) Hq (Hh _)) (Jb (PW.pt (KI (Ho HL (pv 1) G_ (Hh _)) (KJ (Ho HL (pv 6) Hq (Hh _))))) (Jz (Ho (Oy (KM hr)) (pv 10) (IC GV) (Hh _)))))) (Hd (Hf J8)) HI)
  (Hd (Hf (Hi Wp (IU (GU (pv 2) GV)) (JE Ln rfl B.tuple_ Js (GU (pv 9) GV))))))))))),?_⟩
 refine⟨_,rfl,rfl,x,_,rfl,rfl,by decide+kernel,by omega,λu hu=>?_⟩;have S1:=Hc hu (.tup [V.str (Ah x (":":Str)).1,V.str (Ah x (":":Str)).2.1,V.str (Ah x (":":Str)).2.2]);refine⟨u,_,rfl,SqT.of Ha,rfl,_,_,rfl,_,_,rfl,_,_,rfl,rfl,?_⟩;have lt:=LI x;refine⟨_,rfl,rfl,HU x,_,rfl,rfl,by decide+kernel,by omega,λv hv=>?_⟩;have S2:=Hc hv (.tup [V.str (Ah (HU x) ("..":Str)).1,V.str (Ah (HU x) ("..":Str)).2.1,V.str (Ah (HU x) ("..":Str)).2.2]);refine⟨v,_,rfl,SqT.of Ha,rfl,_,_,rfl,_,_,rfl,_,_,rfl,rfl,?_⟩;have S12:=S1.trans S2;clear S1 S2;generalize GZ (GZ H u (.tup [V.str (Ah x (":":Str)).1,V.str (Ah x (":":Str)).2.1,V.str (Ah x (":":Str)).2.2])) v (.tup [V.str (Ah (HU x) ("..":Str)).1,V.str (Ah (HU x) ("..":Str)).2.1,V.str (Ah (HU x) ("..":Str)).2.2])=H2 at S12 ⊢;generalize hsn:(Ah x (":":Str)).2.1=sn;generalize hdn:(Ah (HU x) ("..":Str)).2.1=dn;dsimp only;obtain⟨el,es⟩:=UA k x;refine Nl (λσ' H'=>∃e,σ'=[some (V.str x),some (V.int k),some (V.str (IP x)),some (V.str sn),some (V.str (HU x)),some (V.str (IN x)),some (V.str dn),some (V.str (IY x)),some (V.ref e),none,none]∧Same H2 H'∧H' e=some (.lst ((Ib k x).map V.str))) (λZ hZ=>?_) ?_
 · rcases hk with rfl | rfl
   · exact⟨_,rfl,rfl,_,rfl,GW ⟨_,rfl,Om,λe he=>hZ _ _ ⟨e,rfl,Hc he _,Ha⟩⟩⟩
   · exact⟨_,rfl,rfl,_,rfl,GX ⟨_,rfl,_,rfl,Ii,λe he=>hZ _ _ ⟨e,rfl,Hc he _,Ha⟩⟩⟩
 rintro σ' H3 ⟨e,rfl,S3,ee⟩;refine⟨_,rfl,e,rfl,⟨_,SqL.of ee⟩,λp hp=>?_⟩;refine Mp (K:=K) (a:=e) (xs:=(Ib k x).map V.str) (λi σ' ys H'=>(∃v,σ'=[v,some (.int k)])∧Same H3 H'∧H' p=some (.lst ys)∧ys=((Ib k x).take i).map λs=>eV ((oQ k s).getD none)) ⟨⟨none,rfl⟩,Hc hp _,Ha,rfl⟩ ?_ ?_ ?_
 · rintro i σ' ys H' hi ⟨_,s,h1,h2⟩;refine⟨SqL.of (s _ _ ee),h1,?_⟩;rw[h2,Ab,AE];exact Il (by omega)
 · rintro i y σ' ys H' N hy ⟨⟨v,rfl⟩,s,h1,h2⟩ hN;rw[Ay] at hy;cases hc:(Ib k x)[i]? with
   | none=>rw[hc] at hy;cases hy
   | some w=>
    rw[hc] at hy;obtain rfl:V.str w=y:=Am hy;have wl:=es w (AA hc);have fin:∀H4,Same H' H4→∀o,(oQ k w).getD none=o→N [some (V.str w),some (V.int k)] (ys++[eV o]) (GZ H4 p (.lst (ys++[eV o]))):=λH4 s4 o e=>by refine hN _ _ _ ⟨⟨_,rfl⟩,Jn (s.trans s4) hp,Ha,?_⟩;rw[h2,Jd hc,Aj,Cf,e]
    have num:¬(w=("*":Str)∧k=3)→∀H4,Same H' H4→H4 p=some (.lst ys)∧N [some (V.str w),some (V.int k)] (ys++[eV (Ht (sg w))]) (GZ H4 p (.lst (ys++[eV (Ht (sg w))]))):=λh H4 s4=>⟨s4 _ _ h1,fin H4 s4 _ (QI hk h)⟩;refine⟨_,rfl,rfl,_,rfl,?_⟩;by_cases hst:w=("*":Str)
    · rw[decide_eq_true (show V.str w=V.str ("*":Str) by rw[hst])];refine GX ⟨_,rfl,rfl,_,rfl,?_⟩;rcases hk with rfl | rfl
      · exact GW ⟨_,rfl,w,rfl,by omega,λH4 s4=>num (λz=>by cases z.2) H4 s4⟩
      · exact GX ⟨h1,fin H' (Same.refl _) none (by rw[hst,Rs];rfl)⟩
    · rw[decide_eq_false (show ¬V.str w=V.str ("*":Str) from λz=>hst (by injection z))];exact GW ⟨_,rfl,w,rfl,by omega,λH4 s4=>num (λz=>hst z.1) H4 s4⟩
 rintro σ' ys H4 ⟨_,S4,h4,rfl⟩;rw[Ab,BR] at h4;refine IA ?_;have e4:=S4 _ _ ee;refine⟨_,rfl,e,_,rfl,.inl (SqL.of e4),_,rfl,by omega,by rw[Ab];omega,λr hr'=>?_⟩;refine Lk (n:=((((Ib k x).map V.str).length:Nat):Int).toNat) (λi σ' ys H'=>(∃v,σ'=[v,some (.int k),some (.ref e),some (.ref p)])∧Same H4 H'∧H' r=some (.lst ys)∧ys.length≤i∧(ys.isEmpty=true→∀s∈(Ib k x).take i,oQ k s≠none)∧(ys.isEmpty=false→∃s∈Ib k x,oQ k s=none)) ⟨⟨none,rfl⟩,Hc hr' _,Ha,Ae _,λ_ s hs=>by simp at hs,λz=>by cases z⟩ ?_ ?_ ?_
 · rintro i σ' ys H' hi ⟨_,s,h1,h2,_⟩;rw[Ab] at hi;exact⟨h1,Il (by omega)⟩
 · rintro i σ' ys H' N hi ⟨⟨v,rfl⟩,s,h1,h2,h5,h6⟩ hN;rw[Ab] at hi;have hi2:i<(Ib k x).length:=by omega
   obtain⟨w,hc⟩:∃w,(Ib k x)[i]?=some w:=⟨(Ib k x)[i],by simp[hi2]⟩;have e0:(0:Int)+(i:Int)=(i:Int):=by omega
   have at1:Ir ((Ib k x).map λs=>eV ((oQ k s).getD none)) (0+(i:Int))=some (eV ((oQ k w).getD none)):=by rw[e0];exact Jh (by rw[Ay,hc];rfl)
   have at2:Ir ((Ib k x).map V.str) (0+(i:Int))=some (V.str w):=by rw[e0];exact Jh (by rw[Ay,hc];rfl)
   have skip:oQ k w≠none→N [some (V.int (0+(i:Int))),some (.int k),some (.ref e),some (.ref p)] ys H':=λh=>hN _ _ _ ⟨⟨_,rfl⟩,s,h1,by omega,λz t ht=>by
    rw[Jd hc] at ht;rcases A6.mp ht with ht | ht
    · exact h5 z t ht
    · rw[Ai.mp ht];exact h,h6⟩
   have add:oQ k w=none→N [some (V.int (0+(i:Int))),some (.int k),some (.ref e),some (.ref p)] (ys++[V.int (0+(i:Int))]) (GZ H' r (.lst (ys++[V.int (0+(i:Int))]))):=λh=>hN _ _ _ ⟨⟨_,rfl⟩,Jn s hr',Ha,by rw[A3,DM];omega,λz=>by simp at z,λ_=>⟨w,AA hc,h⟩⟩;refine⟨_,rfl,_,rfl,p,_,_,_,rfl,rfl,SqL.of (s _ _ h4),at1,_,rfl,?_⟩;cases hv:(oQ k w).getD none with
   | some n=>exact GW (GW (skip (UU hv)))
   | none=>
    refine GX ⟨_,rfl,_,rfl,e,_,_,_,rfl,rfl,SqL.of (s _ _ e4),at2,rfl,_,rfl,?_⟩;by_cases hst:w=("*":Str)
    · rw[decide_eq_true (show V.str w=V.str ("*":Str) by rw[hst])];refine GW ⟨_,rfl,rfl,_,rfl,?_⟩;rcases hk with rfl | rfl
      · exact GX ⟨_,rfl,h1,add (Rr (.inl rfl) hv (.inr rfl))⟩
      · exact GW (skip (by rw[hst,Rs];exact Dn _))
    · rw[decide_eq_false (show ¬V.str w=V.str ("*":Str) from λz=>hst (by injection z))];exact GX ⟨_,rfl,h1,add (Rr hk hv (.inl hst))⟩
 rintro σ' ys H5 ⟨_,S5,h5,_,hE,hNE⟩;rw[Ab,AI,BR] at hE;refine IA ?_;have T5:=S12.trans (S3.trans (S4.trans S5));have p5:=S5 _ _ h4;refine⟨_,rfl,rfl,_,rfl,?_⟩;by_cases s0:sn=("":Str)
 · rw[decide_eq_true (show V.str sn=V.str ("":Str) by rw[s0])];exact GX (q2 (W7 hk (hsn.trans s0)) _ T5)
 rw[decide_eq_false (show ¬V.str sn=V.str ("":Str) from λz=>s0 (by injection z))];refine GW ⟨_,rfl,rfl,_,rfl,?_⟩;have last:∀(R:Bool→Hp→Prop)(σ:L2.St),σ[10]?=some (some (V.ref r))→(∀b H6,Same H5 H6→((Ib k x).any λs=>(oQ k s).isNone)=b→R b H6)→Os (Lr MF (Ia 10) (J1 Im)) σ H5 R:=λR σ hσ hR=>by
  refine⟨_,hσ,JO,λe2 he2=>⟨r,e2,ys,rfl,rfl,Hc he2 _ _ _ h5,Ha,_,rfl,hR _ _ (Hc he2 _) ?_⟩⟩;cases hy:ys.isEmpty with
  | true=>exact List.any_eq_false.mpr λs hs=>by rw[Option.isNone_iff_eq_none];exact hE hy s hs
  | false=> obtain⟨s,hs,h⟩:=hNE hy;exact List.any_eq_true.mpr ⟨s,hs,by rw[h];rfl⟩
 have bad:∀H6,Same H5 H6→((Ib k x).any λs=>(oQ k s).isNone)=true→Q .non H6:=λH6 s6 h=>by obtain⟨s,hs,h⟩:=List.any_eq_true.mp h;exact q2 (Nq hk hs (Option.isNone_iff_eq_none.mp h)) _ (T5.trans s6)
 have good:∀H6,Same H5 H6→((Ib k x).any λs=>(oQ k s).isNone)=false→∀t1,H6 t1=none→∀l,(GZ H6 t1 (.tup [V.str (IP x)])) l=none→∀t,(GZ (GZ H6 t1 (.tup [V.str (IP x)])) l (.tup ((Ib k x).map λs=>eV ((oQ k s).getD none)))) t=none→Q (.ref t) (GZ (GZ (GZ H6 t1 (.tup [V.str (IP x)])) l (.tup ((Ib k x).map λs=>eV ((oQ k s).getD none)))) t (.tup ([V.str (IP x)]++(Ib k x).map λs=>eV ((oQ k s).getD none)))):=λH6 s6 h t1 ht1 l hl t ht=>by
  have a1:=Hc ht1 (.tup [V.str (IP x)]);have a2:=Hc hl (.tup ((Ib k x).map λs=>eV ((oQ k s).getD none)));have a3:=Hc ht (.tup ([V.str (IP x)]++(Ib k x).map λs=>eV ((oQ k s).getD none)));have tt:=T5.trans (s6.trans (a1.trans a2));refine q1 _ (UC hk λs hs z=>?_) t _ (tt.trans a3) (OD tt ht) ?_
  · have:=List.any_eq_false.mp h s hs;rw[z] at this;exact this rfl
  · rw[Ha];show some (HO.tup (V.str (IP x)::_))=some (HO.tup (V.str (IP x)::_));rw[C2];rfl
 have ret:∀(H6:Hp)(σ:L2.St),Same H5 H6→((Ib k x).any λs=>(oQ k s).isNone)=false→σ[2]?=some (some (V.str (IP x)))→σ[9]?=some (some (V.ref p))→Lr (QL K) (Lq (Jw (Ia 2) Im)) (Ma (λxs H_1 Q=>∃p ys,xs=[V.ref p]∧((SqL K H_1 p ys∧∀(l:Addr),H_1 l=none→Q (V.ref l) (GZ H_1 l (HO.tup ys)))∨SqT K H_1 p ys∧Q (V.ref p) H_1)) (Jw (Ia 9) Im)) σ H6 Q:=λH6 σ s6 h g2 g9=>by refine⟨_,g2,Om,λt1 ht1=>⟨_,g9,p,_,rfl,.inl ⟨SqL.of (Hc ht1 _ _ _ (s6 _ _ p5)),λl hl=>⟨t1,l,_,_,rfl,rfl,SqT.of (Hc hl _ _ _ Ha),SqT.of Ha,by simp,?_,λz=>absurd (List.map_eq_nil_iff.mp z) (UH k x),λ_ t ht=>good H6 s6 h t1 ht1 l hl t ht⟩⟩⟩⟩;rw[Ab];exact Ik (by simp;omega)
 rcases hk with rfl | rfl
 · refine GW (last _ _ rfl λb H6 s6 e=>?_);cases b with
   | true=>exact GX (bad H6 s6 e)
   | false=>exact GW (ret H6 _ s6 e rfl rfl)
 · refine GX ⟨_,rfl,rfl,_,rfl,?_⟩;by_cases d0:dn=("":Str)
   · rw[decide_eq_true (show V.str dn=V.str ("":Str) by rw[d0])];exact GX (q2 (W6 (hdn.trans d0)) _ T5)
   rw[decide_eq_false (show ¬V.str dn=V.str ("":Str) from λz=>d0 (by injection z))];refine GW (last _ _ rfl λb H6 s6 e=>?_);cases b with
   | true=>exact GX (bad H6 s6 e)
   | false=>exact GW (ret H6 _ s6 e rfl rfl)
theorem YM(F:Fun K "_law_read" "_law_read" NF f fd)(GH:Γ35 P w K mg base)(GI:Γ33 P w K mg base):FnOk P w K mg base HH 4 f fd ["text","size"] (O9):=by
 refine F.ok Ge (λvs H Q E h=>?_) (λcdv A outer s H vs Q E hr h=>?_)
 · obtain⟨x,k,rfl,hk,hl,q1,q2⟩:=h;rfl
 obtain⟨x,k,rfl,hk,hl,q1,q2⟩:=h;refine⟨_,(Hb (HD (Ho HL (pv 0) Hq (Hh _)) (Hd (Hf (IU GV))) HI)
  (Hb (LX (N':=["word","size"]) (js:=[none,some 1]) (i:=2) Ge.nd rfl (Or.inl rfl) rfl (IV (N:=["text","size","parts"]) (outer:=Hg NF) (by decide+kernel)) (Kg (Iw A5 Co DC OP (pv 0) (GU Hq GV))) (λ_ _ _ _ _=>(HA (i:=0) MQ rfl (Or.inl rfl))) (λ_ _ _ _ _=>J0) (λ_ _ _ _ _=>(Hm GH (hr.mono (by decide)) rfl (GU (pv 0) (GU (pv 1) GV)))))
  (Hb (HD (PW.pt (Jb (Ho (V8 (KM hr)) J8 (pv 2) (by with_unfolding_all rfl)) (Jz (IM (Iz (Hm GI (hr.mono (by decide)) rfl (GU (JE Ln rfl B.tuple_ Js (GU (pv 2) GV)) (GU (pv 1) GV)))))))) (Hd (Hf J8)) HI)
  (Hd (Hf (JE Ln rfl B.tuple_ Js (GU (pv 2) GV))))))),?_⟩
 refine⟨_,rfl,rfl,_,rfl,?_⟩;by_cases hx:x=("-":Str)
 · rw[decide_eq_true (show V.str x=V.str ("-":Str) by rw[hx])];refine GX ⟨JO,λt ht=>?_⟩;subst hx;exact q1 [] (Ya k) t _ (Hc ht _) ⟨[],rfl,Ha,λp hp=>by cases hp⟩
 rw[decide_eq_false (show ¬V.str x=V.str ("-":Str) from λz=>hx (by injection z))];refine GW ⟨_,rfl,rfl,x,_,rfl,rfl,by decide+kernel,by omega,λl hl'=>?_⟩;have sl:=Hc hl' (.lst ((AR x (" ":Str)).map V.str));have el:(GZ H l (.lst ((AR x (" ":Str)).map V.str))) l=some (.lst ((AR x (" ":Str)).map V.str)):=Ha;generalize GZ H l (.lst ((AR x (" ":Str)).map V.str))=Hl at*;have ew:Hn x=AR x (" ":Str):=if_neg hx;rw[←ew] at el;obtain⟨wl,ww⟩:=N4 x;refine⟨l,rfl,⟨_,SqL.of el⟩,λp hp=>?_⟩;refine Mp (K:=K) (a:=l) (xs:=(Hn x).map V.str) (λi σ' ys H'=>(∃v,σ'=[v,some (.int k)])∧Same Hl H'∧H' p=some (.lst ys)∧∃os:List (Option (Addr×GP)),ys=os.map Lv∧os.map (Option.map (·.2))=((Hn x).take i).map (II k)∧∀q,some q∈os→H' q.1=some (.tup (V.str q.2.1::q.2.2.map eV))) ?_ ?_ ?_ ?_
 · exact⟨⟨none,rfl⟩,Hc hp _,Ha,[],rfl,rfl,λq hq=>by simp at hq⟩
 · rintro i σ' ys H' hi ⟨_,s,h1,os,rfl,h2,_⟩;refine⟨SqL.of (s _ _ el),h1,?_⟩;rw[Ab];have:=congrArg BC h2;rw[Ab,Ab,AE] at this;exact Il (by omega)
 · rintro i y σ' ys H' N hy ⟨⟨v,rfl⟩,s,h1,os,rfl,h2,h3⟩ hN;rw[Ay] at hy;cases hc:(Hn x)[i]? with
   | none=>rw[hc] at hy;cases hy
   | some t=>
    rw[hc] at hy;obtain rfl:V.str t=y:=Am hy;have hm:t∈Hn x:=AA hc;refine⟨_,rfl,_,rfl,t,k,rfl,hk,by have:=ww t hm;omega,λz hz u H2 s2 hu eu=>⟨s2 _ _ h1,hN _ _ _ ⟨⟨_,rfl⟩,?_,Ha,os++[some (u,z)],?_,?_,?_⟩⟩,λhz H2 s2=>⟨s2 _ _ h1,hN _ _ _ ⟨⟨_,rfl⟩,?_,Ha,os++[none],?_,?_,?_⟩⟩⟩
    · exact Jn (s.trans s2) hp
    · rw[Aj];rfl
    · rw[Aj,h2,Jd hc,Aj,Cf,Cf,hz];rfl
    · intro q hq;have hqp:∀{b:Addr}{o:HO},H2 b=some o→b=p→o= .lst (os.map Lv):=λe z=>by rw[z,s2 _ _ h1] at e;exact(Am e).symm
      rcases A6.mp hq with z' | z'
      · have e:=s2 _ _ (h3 q z');rw[Hk (λz=>by cases hqp e z)];exact e
      · obtain rfl:q=(u,z):=by injection(Ai.mp z')
        rw[Hk (λz=>by cases hqp eu z)];exact eu
    · exact Jn (s.trans s2) hp
    · rw[Aj];rfl
    · rw[Aj,h2,Jd hc,Aj,Cf,Cf,hz];rfl
    · intro q hq;have hqp:∀{b:Addr}{o:HO},H2 b=some o→b=p→o= .lst (os.map Lv):=λe z=>by rw[z,s2 _ _ h1] at e;exact(Am e).symm
      rcases A6.mp hq with z' | z'
      · have e:=s2 _ _ (h3 q z');rw[Hk (λz=>by cases hqp e z)];exact e
      · cases Ai.mp z'
 · rintro σ' ys H' ⟨_,s,h1,os,rfl,h2,h3⟩;rw[Ab,BR] at h2;have t1:=sl.trans s;refine IA ?_;refine⟨_,rfl,p,_,rfl,rfl,SqL.of h1,λv hv=>?_,_,rfl,?_⟩
   · obtain⟨o,ho,rfl⟩:=A4.mp hv;cases o with
     | none=>exact .inl rfl
     | some q=>exact VG (h3 q ho)
   cases hany:(os.map Lv).any KB with
   | true=> have hn:=Rv os hany;obtain⟨w,hw,hg⟩:=A4.mp (show none∈(Hn x).map (II k) by rw[←h2];exact A4.mpr ⟨none,hn,rfl⟩);exact GX (q2 (Pa hw hg) _ t1)
   | false=>
    obtain⟨qs,rfl⟩:=Ru os hany;have hp2:IF k (Hn x)=some (qs.map (·.2)):=Tk (by rw[←h2,C2,C2];rfl);have h1':H' p=some (.lst (qs.map λq=>V.ref q.1)):=by rw[h1,C2];rfl
    have few:=NM hl hp2;have er:=N6 hp2;have qf:∀q∈qs,H' q.1=some (.tup (V.str q.2.1::q.2.2.map eV)):=λq hq=>h3 q (BM hq);refine GW ⟨_,rfl,p,_,rfl,.inl ⟨SqL.of h1',λt ht=>?_⟩⟩;have st:=Hc ht (.tup (qs.map λq=>V.ref q.1));have WA:GAt (GZ H' t (.tup (qs.map λq=>V.ref q.1))) t (qs.map (·.2)):=⟨qs,rfl,Ha,λq hq=>st _ _ (qf q hq)⟩;refine⟨_,rfl,.ref t,JA (qs.map (·.2)),k,rfl,hk,JW WA few,λH5 s5=>⟨_,rfl,?_⟩⟩;have t5:=t1.trans (st.trans s5);cases hm:JC k (JA (qs.map (·.2))) with
    | false=>exact GX (q2 (er.trans (if_neg (by rw[hm];decide))) _ t5)
    | true=> have h5:=(st.trans s5) _ _ h1';refine GW ⟨_,rfl,p,_,rfl,.inl ⟨SqL.of h5,λt2 ht2=>?_⟩⟩;have s6:=Hc ht2 (.tup (qs.map λq=>V.ref q.1));exact q1 _ (er.trans (if_pos hm)) t2 _ (t5.trans s6) ⟨qs,rfl,Ha,λq hq=>s6 _ _ ((st.trans s5) _ _ (qf q hq))⟩
theorem YO(F:Fun K "_law_sign" "_law_sign" P4 f fd)(G5:Γ20 P w K mg base):FnOk P w K mg base HH 2 f fd ["bag"] (RZ):=by
 refine F.ok Gf (λvs H Q E h=>?_) (λcdv A outer s H vs Q E hr h=>?_)
 · obtain⟨b,g,l,n,rfl,Bg,hn,q⟩:=h;rfl
 obtain⟨b,g,l,n,rfl,Bg,hn,q⟩:=h;refine⟨_,(Hb (Hz (i:=1) Gf.nd rfl (Or.inl rfl) Hq)
  (Hb (HD (Ho HL (Hm G5 (hr.mono (by decide)) rfl (GU (pv 0) (GU G_ GV))) G_ (Hh _)) (Hd (Hf (Hy LS (pv 1) (Hm G5 (hr.mono (by decide)) rfl (GU (pv 0) (GU G_ GV))) (λ_ _=>rfl)))) HI)
  (Hd (Hf (Hy LS (pv 1) (Hm G5 (hr.mono (by decide)) rfl (GU (pv 0) (GU (Hr Lp rfl B.len_ I_ (GU (pv 1) GV)) GV))) (λ_ _=>rfl)))))),?_⟩
 refine IA ?_;have ls:(96:Nat)≤Ag:=by decide
 refine⟨_,rfl,b,g,l,n,2,rfl,Bg,by omega,by decide,by decide,λc H1 c0 c1 B1 S1=>⟨rfl,_,rfl,Hx (λ_=>?_) (λ_=>?_)⟩⟩
 · refine⟨_,rfl,_,rfl,b,g,l,_,17,rfl,B1,by omega,by decide,by decide,λi H2 i0 i1 B2 S2=>?_⟩;obtain⟨c,hc,lw,l1⟩:=Q_ i0 (by omega);exact⟨sgnS,i,c,rfl,rfl,by rw[Mn];exact ls,hc,q _ H2 l1 lw (B2.mono (by omega)) (S1.trans S2)⟩
 · refine⟨_,rfl,_,rfl,_,rfl,sgnS,rfl,by rw[Mn];exact ls,b,g,l,_,96,by rw[Mn];rfl,B1,by omega,by decide,by decide,λi H2 i0 i1 B2 S2=>?_⟩;obtain⟨c,hc,lw,l1⟩:=Q_ i0 (by omega);exact⟨sgnS,i,c,rfl,rfl,by rw[Mn];exact ls,hc,q _ H2 l1 lw (B2.mono (by omega)) (S1.trans S2)⟩
@[irreducible] def M6:Expr:=QG ((Ji Ky).getD 1 (.Pass ⟨0,0,0,0⟩))
omit B Cl F_init b_init qML' qMF' in
theorem ZK:PE X M6 (J1 (N2 13)):=by exact Tl (by unfold M6;rfl) (by rfl) rfl
@[irreducible] def M7:Expr:=QG ((Ji Ky).getD 2 (.Pass ⟨0,0,0,0⟩))
omit B Cl F_init b_init qML' qMF' in
theorem ZL:PE X M7 (J1 (N2 14)):=by exact Tl (by unfold M7;rfl) (by rfl) rfl
omit B Cl F_init b_init qML' qMF' in
theorem Z8:Ji Ky=(((Ji Ky).set 1 (MC ((Ji Ky).getD 1 (.Pass ⟨0,0,0,0⟩)) M6)).set 2 (MC ((Ji Ky).getD 2 (.Pass ⟨0,0,0,0⟩)) M7)):=by unfold M6 M7;rfl
theorem Z9(F:Fun K "_law_other_word" "_law_other_word" Ky f fd)(G5:Γ20 P w K mg base):FnOk P w K mg base HH 2 f fd ["bag","word"] (Su):=by
 refine F.ok Gg (λvs H Q E h=>?_) (λcdv A outer s H vs Q E hr h=>?_)
 · obtain⟨b,g,l,n,x,rfl,Bg,hn,hl,lw,q⟩:=h;rfl
 obtain⟨b,g,l,n,x,rfl,Bg,hn,hl,lw,q⟩:=h;rw[Z8];refine⟨_,(Hb (Hz (i:=2) Gg.nd rfl (Or.inl rfl) (Hm G5 (hr.mono (by decide)) rfl (GU (pv 0) (GU G_ GV))))
  (Hb (Hz (i:=3) Gg.nd rfl (Or.inl rfl) ZK (hs:=by unfold M6;rfl))
  (Hb (Hz (i:=4) Gg.nd rfl (Or.inl rfl) ZL (hs:=by unfold M7;rfl))
  (Hb (Hz (i:=4) Gg.nd rfl (Or.inl rfl) (Hi Rw (pv 4) (IC (OS (n:=10) rfl rfl))))
  (Hb (Hz (i:=5) Gg.nd rfl (Or.inl rfl) (Hy Ig (pv 3) (Hm G5 (hr.mono (by decide)) rfl (GU (pv 0) (GU G_ GV))) (λ_ _=>rfl)))
  (Hb (Hz (i:=6) Gg.nd rfl (Or.inl rfl) (Hy Jl (Iw A5 Bc Bd KN (pv 1) (GU Hq GV)) G_ (λ_ _=>rfl)))
  (Hb (HD (Ho HL (pv 2) G_ (Hh _)) (Hd (Hf (Hy Ig (pv 4) (Hm G5 (hr.mono (by decide)) rfl (GU (pv 0) (GU G_ GV))) (λ_ _=>rfl)))) HI)
  (Hb (HD (Ho HL (pv 2) G_ (Hh _)) (Hd (Hf (Hi IW (Hi IW (pv 6) Hq) (pv 5)))) HI)
  (Hb (HD (Ho HL (pv 2) G_ (Hh _)) (Hd (Hf (Hi IW (Hi IW (Hi IW (Hi IW (pv 6) Hq) (pv 5)) Hq) (Hy Jl (Iw A5 PySem.F.slot_str_rpartition PySem.F.type_str_rpartition Zg (pv 1) (GU Hq GV)) G_ (λ_ _=>rfl))))) HI)
  (Hb (HD (Ho HL (pv 2) G_ (Hh _)) (Hd (Hf (Hi IW (Hi IW (Hy Jl (Iw A5 Bc Bd KN (pv 1) (GU Hq GV)) G_ (λ_ _=>rfl)) Hq) (pv 5)))) HI)
  (Hd (Hf (Jm (Ho Xx Hq (pv 1) (by with_unfolding_all rfl)) (Hy Jl (Iw A5 Bc Bd KN (pv 1) (GU Hq GV)) G_ (λ_ _=>rfl)) (Hi IW (Hi IW (pv 1) Hq) (pv 5))))))))))))))),?_⟩
 refine⟨_,rfl,b,g,l,n,5,rfl,Bg,by omega,by decide,by decide,λc H1 c0 c1 B1 S1=>?_⟩;refine IA ?_;refine λns nl hns=>⟨Ik (by rw[Ab];omega),λr1 hr1=>?_⟩;have s1:=Hc hr1 (.lst (ns.map V.str));have e1:(GZ H1 r1 (.lst (ns.map V.str))) r1=some (.lst (ns.map V.str)):=Ha;obtain⟨r1b,r1g,_⟩:=B1.free hr1;generalize GZ H1 r1 (.lst (ns.map V.str))=H2 at*;refine IA ?_;refine λss sl hss=>⟨Ik (by rw[Ab];omega),λr2 hr2=>?_⟩;have s2:=Hc hr2 (.lst (ss.map V.str));have e2:(GZ H2 r2 (.lst (ss.map V.str))) r2=some (.lst (ss.map V.str)):=Ha;generalize GZ H2 r2 (.lst (ss.map V.str))=H3 at*;refine IA ?_;refine⟨_,rfl,λts tl hts=>⟨Ik (by rw[Ab];omega),λr3 hr3=>?_⟩⟩;have s3:=Hc hr3 (.lst (ts.map V.str));have e3:(GZ H3 r3 (.lst (ts.map V.str))) r3=some (.lst (ts.map V.str)):=Ha;generalize GZ H3 r3 (.lst (ts.map V.str))=H4 at*;refine⟨r2,r3,_,_,rfl,rfl,s3 _ _ e2,e3,Ik (by rw[Ab,Ab];omega),λr4 hr4=>?_⟩;rw[←Aj];have s4:=Hc hr4 (.lst ((ss++ts).map V.str));have e4:(GZ H4 r4 (.lst ((ss++ts).map V.str))) r4=some (.lst ((ss++ts).map V.str)):=Ha;have s14:=s1.trans (s2.trans (s3.trans s4));have e14:=(s2.trans (s3.trans s4)) _ _ e1;obtain⟨r4b,r4g,_⟩:=(B1.same (s1.trans (s2.trans s3))).free hr4;generalize GZ H4 r4 (.lst ((ss++ts).map V.str))=H5 at*;have B5:=B1.same s14;have S5:=S1.trans s14.sameB;refine IA ?_;refine⟨_,rfl,_,rfl,b,g,l,_,13,rfl,B5,by omega,by decide,by decide,λi H6 i0 i1 B6 S6=>?_⟩;obtain⟨nu,hnu,atn⟩:=No (ts:=ns) i0 (by omega);refine⟨r1,_,i,_,rfl,rfl,SqL.of (S6 _ _ e14 r1b r1g),atn,?_⟩;obtain⟨nl16,nlw⟩:=hns nu hnu;refine IA ?_;refine⟨_,rfl,rfl,x,_,rfl,rfl,by decide+kernel,by omega,λu hu=>⟨u,_,0,_,rfl,rfl,SqT.of Ha,rfl,?_⟩⟩;have s7:=Hc hu (.tup [V.str (Ah x (":":Str)).1,V.str (Ah x (":":Str)).2.1,V.str (Ah x (":":Str)).2.2]);have e7:=s7 _ _ (S6 _ _ e4 r4b r4g);have B7:=B6.same s7;have S7:=S5.trans (S6.trans s7.sameB);generalize GZ H6 u (.tup [V.str (Ah x (":":Str)).1,V.str (Ah x (":":Str)).2.1,V.str (Ah x (":":Str)).2.2])=H7 at*;have lf:(Ah x (":":Str)).1.length≤x.length:=(LV x _).1;have ff:Lw (Ah x (":":Str)).1:=lw.sub (T8 x _).1;generalize(Ah x (":":Str)).1=fl at*;have lc:=Pq;have ld:=SL;refine IA ?_;refine⟨_,rfl,rfl,_,rfl,Hx (λ_=>?_) (λ_=>?_)⟩
 · refine⟨_,rfl,_,rfl,b,g,l,_,24,rfl,B7,by omega,by decide,by decide,λj H8 j0 j1 B8 S8=>?_⟩;obtain⟨t,ht,att⟩:=No (ts:=ss++ts) j0 (by rw[A3];omega);have ok:t.length≤16∧Lw t:=by
    rcases A6.mp ht with z | z
    · exact hss t z
    · exact hts t z
   exact⟨r4,_,j,_,rfl,rfl,SqL.of (S8 _ _ e7 r4b r4g),att,q t H8 (by omega) ok.2 (B8.mono (by omega)) (S7.trans S8)⟩
 refine⟨_,rfl,rfl,_,rfl,Hx (λ_=>?_) (λ_=>?_)⟩
 · exact⟨_,rfl,_,_,rfl,rfl,Ik (by omega),_,rfl,_,_,rfl,rfl,Ik (by rw[H_];omega),q _ H7 (by rw[H_,H_];omega) ((ff.app T0).app nlw) (B7.mono (by omega)) S7⟩
 refine⟨_,rfl,rfl,_,rfl,Hx (λ_=>?_) (λ_=>?_)⟩
 · refine⟨_,rfl,_,_,rfl,rfl,Ik (by omega),_,rfl,_,_,rfl,rfl,Ik (by rw[H_];omega),_,_,rfl,rfl,Ik (by rw[H_,H_];omega),_,rfl,rfl,x,_,rfl,rfl,by decide+kernel,by omega,λv a1 a2 a3 l3 g3 hv=>⟨v,_,2,_,rfl,rfl,SqT.of Ha,rfl,_,_,rfl,rfl,Ik (by rw[H_,H_,H_];omega),?_⟩⟩;have s8:=Hc hv (.tup [V.str a1,V.str a2,V.str a3]);exact q _ _ (by rw[H_,H_,H_,H_];omega) ((((ff.app T0).app nlw).app OO).app (lw.sub g3)) ((B7.same s8).mono (by omega)) (S7.trans s8.sameB)
 have pd:=LV x ("..":Str);have pg:=lw.sub (T8 x ("..":Str)).1;refine⟨_,rfl,rfl,_,rfl,Hx (λ_=>?_) (λ_=>?_)⟩
 · refine⟨_,rfl,rfl,x,_,rfl,rfl,by decide+kernel,by omega,λv hv=>⟨v,_,0,_,rfl,rfl,SqT.of Ha,rfl,_,_,rfl,rfl,Ik (by omega),_,rfl,_,_,rfl,rfl,Ik (by rw[H_];omega),?_⟩⟩;have s8:=Hc hv (.tup [V.str (Ah x ("..":Str)).1,V.str (Ah x ("..":Str)).2.1,V.str (Ah x ("..":Str)).2.2]);exact q _ _ (by rw[H_,H_];omega) ((pg.app OO).app nlw) ((B7.same s8).mono (by omega)) (S7.trans s8.sameB)
 refine⟨_,rfl,_,_,rfl,rfl,_,rfl,Hx (λ_=>?_) (λ_=>?_)⟩
 · refine⟨_,rfl,rfl,x,_,rfl,rfl,by decide+kernel,by omega,λv hv=>⟨v,_,0,_,rfl,rfl,SqT.of Ha,rfl,?_⟩⟩;have s8:=Hc hv (.tup [V.str (Ah x ("..":Str)).1,V.str (Ah x ("..":Str)).2.1,V.str (Ah x ("..":Str)).2.2]);exact q _ _ (by omega) pg ((B7.same s8).mono (by omega)) (S7.trans s8.sameB)
 · exact⟨_,rfl,_,_,rfl,rfl,Ik (by omega),_,rfl,_,_,rfl,rfl,Ik (by rw[H_];omega),q _ H7 (by rw[H_,H_];omega) ((lw.app OO).app nlw) (B7.mono (by omega)) S7⟩
theorem YI(F:Fun K "_law_bent" "_law_bent" Pm f fd)(G5:Γ20 P w K mg base)(GJ:Γ37 P w K mg base)(GK:Γ38 P w K mg base):FnOk P w K mg base HH 3 f fd ["bag","text"] (RV):=by
 refine F.ok Gh (λvs H Q E h=>?_) (λcdv A outer s H vs Q E hr h=>?_)
 · obtain⟨b,g,l,n,x,rfl,Bg,hn,hl,lw,q⟩:=h;rfl
 obtain⟨b,g,l,n,x,rfl,Bg,hn,hl,lw,q⟩:=h;refine⟨_,(Hb (Hz (i:=2) Gh.nd rfl (Or.inl rfl) (Hm G5 (hr.mono (by decide)) rfl (GU (pv 0) (GU G_ GV))))
  (Hb (Hz (i:=3) Gh.nd rfl (Or.inl rfl) (Hm GJ (hr.mono (by decide)) rfl (GU (pv 0) GV)))
  (Hb (Hz (i:=4) Gh.nd rfl (Or.inl rfl) (Hm G5 (hr.mono (by decide)) rfl (GU (pv 0) (GU (Hi Jq (Hr Lp rfl B.len_ I_ (GU (pv 1) GV)) G_) GV))))
  (Hb (Hz (i:=5) Gh.nd rfl (Or.inl rfl) (Iw A5 Co DC OP (pv 1) (GU Hq GV)))
  (Hb (Hz (i:=6) Gh.nd rfl (Or.inl rfl) (Hm G5 (hr.mono (by decide)) rfl (GU (pv 0) (GU (Hr JN rfl B.len_ I_ (GU (pv 5) GV)) GV))))
  (Hb (Hz (i:=7) Gh.nd rfl (Or.inl rfl) (Hm G5 (hr.mono (by decide)) rfl (GU (pv 0) (GU (Hi Jq (Hr JN rfl B.len_ I_ (GU (pv 5) GV)) G_) GV))))
  (Hb (HD (Ho Ld (pv 2) G_ (Hh _)) (Hd (Hf (Hi IW (Hi IW (Kp RT (pv 1) Kv (Kw (pv 4))) (Hi R7 (pv 3) (JE OU rfl B.int_ Ko (GU (J4 Mf (pv 2) G_ (Hh _)) GV)))) (Kp RT (pv 1) (Kw (Hi Jq (pv 4) (JE OU rfl B.int_ Ko (GU (J4 Ld (pv 2) G_ (Hh _)) GV)))) Kv)))) HI)
  (Hb (HD (Ho Ld (pv 2) G_ (Hh _)) (Hd (JK (Hm GK (hr.mono (by decide)) rfl (GU (pv 0) (GU (Hy Ig (pv 5) (pv 6) (λ_ _=>rfl)) GV))) (Nh (pv 5) (pv 6) N9))) (Hd (HD (Ho HL (pv 2) G_ (Hh _)) (Hd (J5 (Iw BX EO EQ T4 (pv 5) (GU (pv 7) (GU (Hy Ig (pv 5) (pv 6) (λ_ _=>rfl)) GV))))) (Hd (HD (Ho HL (pv 2) G_ (Hh _)) (Hd (J5 (Iw BX EO EQ T4 (pv 5) (GU (pv 7) (GU (Iw BX F5 F6 SM (pv 5) (GU (pv 6) GV)) GV))))) (Hd (Hf (Hy Ig (IC (GU (Hi IW Hq (pv 1)) (GU (Hi IW (pv 1) Hq) (GU (Hi IW (pv 1) Hq) (GU (Hi IW Hq (pv 1)) (GU (Hi IW (pv 1) Hq) GV)))))) (Hm G5 (hr.mono (by decide)) rfl (GU (pv 0) (GU G_ GV))) (λ_ _=>rfl)))))))))
  (Hd (Hf (Iw A5 C7 C8 Mr Hq (GU (pv 5) GV)))))))))))),?_⟩
 have L1:∀k:Nat,k≤5000→k≤Ag:=λk h=>Ik h;refine⟨_,rfl,b,g,l,n,9,rfl,Bg,by omega,by decide,by decide,λc H1 c0 c1 B1 S1=>?_⟩;refine IA ?_;refine⟨_,rfl,b,g,l,_,rfl,B1,by omega,λsg' H2 sl slw B2 S2=>?_⟩;refine IA ?_;refine⟨_,rfl,_,rfl,x,rfl,L1 _ (by omega),_,_,rfl,rfl,b,g,l,_,_,rfl,B2,by omega,by omega,Qn (by omega),λat' H3 a0 a1 B3 S3=>?_⟩;refine IA ?_;refine⟨_,rfl,rfl,x,_,rfl,rfl,by decide+kernel,by omega,λw hw=>?_⟩;have s4:=Hc hw (.lst ((AR x (" ":Str)).map V.str));have e4:(GZ H3 w (.lst ((AR x (" ":Str)).map V.str))) w=some (.lst ((AR x (" ":Str)).map V.str)):=Ha;obtain⟨wb,wg,wl⟩:=B3.free hw;have S13:=S1.trans (S2.trans S3);have nw':H w=none:=S13.back B3 w hw;generalize GZ H3 w (.lst ((AR x (" ":Str)).map V.str))=H4 at*;have B4:=B3.same s4;have wsm:=Yr x;have wne:AR x (" ":Str)≠[]:=OX x _;have wlw:∀t∈AR x (" ":Str),Lw t:=λt ht=>lw.sub (Y7 (by rw[←OJ];exact ht));generalize AR x (" ":Str)=ts at*;have tpos:=Ej.mpr wne;have tlen:=S0 ts;refine IA ?_;refine⟨_,rfl,_,rfl,w,_,rfl,.inl (SqL.of e4),b,g,l,_,_,rfl,B4,by omega,by rw[Ab];omega,Qn (by rw[Ab];omega),λk H5 k0 k1 B5 S5=>?_⟩;rw[Ab] at k1;have e5:=S5 _ _ e4 wb wg;refine IA ?_;refine⟨_,rfl,_,rfl,w,_,rfl,.inl (SqL.of e5),_,_,rfl,rfl,b,g,l,_,_,rfl,B5,by omega,by rw[Ab];omega,Qn (by rw[Ab];omega),λto H6 t0 t1 B6 S6=>?_⟩;rw[Ab] at t1;have e6:=S6 _ _ e5 wb wg;have S16:=S13.trans (s4.sameB.trans (S5.trans S6));obtain⟨wd,hwd,atw⟩:=No (ts:=ts) k0 (by omega);obtain⟨kn,rfl⟩:=BH k0;obtain⟨tn,rfl⟩:=BH t0;have kl:kn<ts.length:=by omega
 have tkn:ts[kn]?=some wd:=by
  have:=atw;rw[Jh (v:=V.str ts[kn]) (by simp[kl])] at this;injection this with this
  injection this with this
  rw[←this];simp[kl]
 have wdl:=SA hwd;have wdw:=wlw wd hwd;refine IA ?_;refine⟨_,rfl,_,_,rfl,rfl,_,rfl,Hx (λ_=>?_) (λ_=>?_)⟩
 · obtain⟨kk,hk1,hk2⟩:∃kk:Nat,(if decide ((0:Int)<c)=true then(1:Int) else 0)=(kk:Int)∧kk≤1:=by
    split
    · exact⟨1,rfl,by decide⟩
    · exact⟨0,rfl,by decide⟩
   refine⟨_,rfl,_,rfl,_,rfl,x,rfl,by omega,λz zl zs=>⟨_,rfl,_,rfl,_,_,rfl,rfl,.inr ⟨_,rfl,sg',kk,rfl,congrArg V.int hk1,by omega,by omega,λr rl rs=>⟨_,_,rfl,rfl,L1 _ ?_,_,rfl,_,rfl,_,rfl,_,_,rfl,rfl,.inr ⟨_,rfl,_,_,rfl,rfl,_,rfl,x,rfl,by omega,λz2 z2l z2s=>⟨_,_,rfl,rfl,L1 _ ?_,q _ H6 ?_ (((lw.sub zs).app (slw.sub rs)).app (lw.sub z2s)) (B6.mono (by omega)) S16⟩⟩⟩⟩⟩⟩
   all_goals (have:r.length≤1:=A8 rl (A8 (Dy sl hk2) (by decide)))
   · omega
   · rw[H_];omega
   · rw[H_,H_];omega
 unfold Oq;dsimp only;refine Nl (λσ' H'=>∃ts':List Str,σ'=[some (.ref b),some (.str x),some (.int c),some (.str sg'),some (.int at'),some (.ref w),some (.int kn),some (.int tn)]∧H' w=some (.lst (ts'.map V.str))∧ts'≠[]∧HK ts'≤2*x.length+21∧(∀t∈ts',Lw t)∧Bag H' b g l (n+12)∧SameB b g H H') (λZ hZ=>?_) ?_
 · refine⟨_,rfl,_,_,rfl,rfl,_,rfl,Hx (λ_=>?_) (λ_=>?_)⟩
   · refine⟨_,rfl,_,rfl,_,rfl,w,_,_,_,rfl,rfl,SqL.of e6,atw,b,g,l,_,wd,rfl,B6,by omega,by omega,wdw,λy H7 yl ylw B7 S7=>?_⟩;refine⟨_,rfl,_,rfl,w,_,_,kn,rfl,rfl,S7 _ _ e6 wb wg,RG (by rw[Ab];exact kl),hZ _ _ ⟨ts.set kn y,rfl,by rw[Ha,List.map_set],?_,?_,?_,((B7.off wb wg wl).mono (by omega)),(S16.trans S7).off nw'⟩⟩
     · intro z;have:=congrArg BC z;rw[List.length_set] at this;exact wne (Ck.mp this)
     · have:=XH (v:=y) tkn;omega
     · intro t ht;rcases List.mem_or_eq_of_mem_set ht with z | rfl
       · exact wlw t z
       · exact ylw
   refine⟨_,rfl,rfl,_,rfl,Hx (λ_=>?_) (λ_=>?_)⟩
   · refine⟨_,rfl,.inl ⟨rfl,_,SqL.of e6⟩,_,rfl,_,rfl,_,rfl,w,_,_,_,rfl,rfl,SqL.of e6,atw,w,_,tn,_,rfl,rfl,e6,by omega,Il (by rw[Ab];omega),hZ _ _ ⟨ts.take (min tn ts.length)++wd::ts.drop (min tn ts.length),rfl,?_,by simp,?_,?_,((B6.off wb wg wl).mono (by omega)),S16.off nw'⟩⟩
     · rw[Ha,Ab,Aj,A7,List.map_take,List.map_drop]
     · rw[Sz];omega
     · intro t ht;rcases A6.mp ht with z | z
       · exact wlw t (Eb z)
       · rcases Au.mp z with rfl | z
         · exact wdw
         · exact wlw t (Ea z)
   refine⟨_,rfl,rfl,_,rfl,Hx (λ_=>?_) (λ_=>?_)⟩
   · have ixs:=(Mo (RG kl)).1;have ew:(ts.map V.str)[kn]?=some (V.str wd):=by rw[Ay,tkn];rfl
     have el:((ts.map V.str).eraseIdx kn)=(ts.eraseIdx kn).map V.str:=T2 _ _ _;have le:=List.length_eraseIdx_of_lt kl;refine⟨_,rfl,.inl ⟨rfl,_,SqL.of e6⟩,_,rfl,_,rfl,.inl ⟨rfl,_,SqL.of e6⟩,_,rfl,w,_,_,kn,_,rfl,rfl,e6,by omega,by omega,by rw[Ab];exact ixs,ew,w,_,tn,_,rfl,rfl,Ha,by omega,?_,hZ _ _ ⟨(ts.eraseIdx kn).take (min tn (ts.eraseIdx kn).length)++wd::(ts.eraseIdx kn).drop (min tn (ts.eraseIdx kn).length),rfl,?_,by simp,?_,?_,(((B6.off wb wg wl).off wb wg wl).mono (by omega)),(S16.off nw').off nw'⟩⟩
     · rw[el,Ab];exact Il (by omega)
     · rw[Ha,el,Ab,Aj,A7,List.map_take,List.map_drop]
     · rw[Sz];have:=Sy tkn;omega
     · intro t ht;rcases A6.mp ht with z | z
       · exact wlw t (ER (Eb z))
       · rcases Au.mp z with rfl | z
         · exact wdw
         · exact wlw t (ER (Ea z))
   have b1:(" ":Str).length=1:=Pp;have b2:("\n":Str).length=1:=by decide+kernel
   have b3:("\t":Str).length=1:=by decide+kernel
   have g1:Lw (" ":Str):=by unfold Lw;decide+kernel
   have g2:Lw ("\n":Str):=by unfold Lw;decide+kernel
   have g3:Lw ("\t":Str):=by unfold Lw;decide+kernel
   refine⟨_,rfl,_,_,rfl,rfl,L1 _ (by omega),_,rfl,_,_,rfl,rfl,L1 _ (by omega),_,rfl,_,_,rfl,rfl,L1 _ (by omega),_,rfl,_,_,rfl,rfl,L1 _ (by omega),_,rfl,_,_,rfl,rfl,L1 _ (by omega),Uq,λp hp=>?_⟩;have s7:=Hc hp (.lst ([(" ":Str)++x,x++(" ":Str),x++("\n":Str),("\n":Str)++x,x++("\t":Str)].map V.str));obtain⟨pb,pg,_⟩:=B6.free hp;refine⟨_,rfl,b,g,l,_,5,rfl,B6.same s7,by omega,by decide,by decide,λj H8 j0 j1 B8 S8=>?_⟩;obtain⟨t,ht,att⟩:=No (ts:=[(" ":Str)++x,x++(" ":Str),x++("\n":Str),("\n":Str)++x,x++("\t":Str)]) j0 (by show j<5;omega);have ok:t.length≤x.length+1∧Lw t:=by
    simp only[Au,Bx,or_false] at ht;rcases ht with rfl | rfl | rfl | rfl | rfl
    · exact⟨by rw[H_];omega,g1.app lw⟩
    · exact⟨by rw[H_];omega,lw.app g1⟩
    · exact⟨by rw[H_];omega,lw.app g2⟩
    · exact⟨by rw[H_];omega,g2.app lw⟩
    · exact⟨by rw[H_];omega,lw.app g3⟩
   exact⟨p,_,j,_,rfl,rfl,SqL.of (S8 _ _ Ha pb pg),att,q t H8 (by omega) ok.2 (B8.mono (by omega)) (S16.trans (s7.sameB.trans S8))⟩
 · rintro σ' H' ⟨ts',rfl,e',ne',ws',lw',B',S'⟩;have jl:=Xk ne';have wl':=S0 ts';exact⟨rfl,_,rfl,_,w,ts',rfl,rfl,SqL.of e',Xj (by rw[Pp];decide) (λt ht=>by have:=SA ht;omega) (by omega),q _ H' (by omega) (Lw.join lw') B' S'⟩
theorem YR(F:Fun K "_law_told" "_law_told" P6 f fd)(GL:Γ17 P w K mg base cNoText)(GM:Γ18 P w K mg base cNoText):FnOk P w K mg base HH 9 f fd ["text","size"] (R_):=by
 refine F.ok Gi (λvs H Q E h=>?_) (λcdv A outer s H vs Q E hr h=>?_)
 · obtain⟨v,d,k,rfl,hk,hd,hl,q⟩:=h;rfl
 obtain⟨v,d,k,rfl,hk,hd,hl,q⟩:=h;refine⟨_,(Hb (Hz (i:=2) Gi.nd rfl (Or.inl rfl) J8)
  (Hb (Hz (i:=3) Gi.nd rfl (Or.inl rfl) (IC GV))
  (Hb (VC (i:=4) rfl rfl rfl Gi.nd rfl rfl rfl rfl Cl.m_NewsError Cl.o_NewsError (λRR pins=>(Hd (Hz (i:=2) Gi.nd rfl (Or.inl rfl) (Jm (Ho HL (pv 1) G_ (Hh _)) (Nt GL (hr.mono (by decide)) rfl (GU (pv 0) GV)) (Nt GM (hr.mono (by decide)) rfl (GU (pv 0) GV)))))) (λa=>(Hb (Hz (i:=5) Gi.nd rfl (Or.inl rfl) (Hr (Pg K rfl) rfl B.isinstance_ HX (GU (pv 4) (GU (IU (GU (IB (v:= .ref _) rfl Cl.m_Full rfl) (GU (IB (v:= .ref _) rfl Cl.m_NoDeed rfl) (GU (IB (v:= .ref _) rfl Cl.m_NoField rfl) (GU (IB (v:= .ref _) rfl Cl.m_NoHand rfl) (GU (IB (v:= .ref _) rfl Cl.m_NoLetter rfl) (GU (IB (v:= .ref _) rfl Cl.m_NoName rfl) (GU (IB (v:= .ref _) rfl Cl.m_NoNumber rfl) (GU (IB (v:= .ref _) rfl Cl.m_NoPiece rfl) (GU (IB (v:= .ref _) rfl Cl.m_NoPost rfl) (GU (IB (v:= .ref _) rfl Cl.m_NoRoad rfl) GV))))))))))) GV))))
  (Hb (Hz (i:=5) Gi.nd rfl (Or.inl rfl) (K9 (pv 5) (Jy (Hr (Pg K rfl) rfl B.isinstance_ HX (GU (pv 4) (GU (IU (GU (IB (v:= .ref _) rfl Cl.m_NoRow rfl) (GU (IB (v:= .ref _) rfl Cl.m_NoSpan rfl) (GU (IB (v:= .ref _) rfl Cl.m_NoStands rfl) (GU (IB (v:= .ref _) rfl Cl.m_NotWanted rfl) (GU (IB (v:= .ref _) rfl Cl.m_NoWeb rfl) (GU (IB (v:= .ref _) rfl Cl.m_NoWish rfl) (GU (IB (v:= .ref _) rfl Cl.m_OnTheWay rfl) (GU (IB (v:= .ref _) rfl Cl.m_Stuck rfl) GV))))))))) GV))))))
  (Hb (Hz (i:=5) Gi.nd rfl (Or.inl rfl) (K9 (pv 5) (Jy (Hr (Pg K rfl) rfl B.isinstance_ HX (GU (pv 4) (GU (IU (GU (IB (v:= .ref _) rfl Cl.m_TooMany rfl) (GU (IB (v:= .ref _) rfl Cl.m_Twice rfl) GV))) GV))))))
  (Hd (Hz (i:=3) Gi.nd rfl (Or.inl rfl) (IC (GU (Hr (Tb K rfl) rfl B.isinstance_ HX (GU (pv 4) (GU (IB (v:= .ref _) rfl Cl.m_NoText rfl) GV))) (GU (Hr (Tb K rfl) rfl B.isinstance_ HX (GU (pv 4) (GU (HZ (v:= .ty "ValueError") rfl Cl.ve Vf rfl) GV))) (GU (pv 5) GV)))))))))))
  (Hd (Hf (IU (GU (pv 2) (GU (pv 3) GV)))))))),?_⟩
 refine IA ?_;refine⟨JO,λp hp=>?_⟩;have s0:=Hc hp (.lst []);have e0:(GZ H p (.lst [])) p=some (.lst []):=Ha;generalize GZ H p (.lst [])=H0 at*;have hd0:=RepY.same s0 d hd;refine IA ?_;have due:∀ps,IJ k d=some ps→GFew ps:=λps h=>by
  cases d with
  | str x=>exact Sj (hl x rfl) h
  | _=>cases h
 have good:∀ps,IJ k d=some ps→∀a H1,Same H0 H1→GAt H1 a ps→∀t,H1 t=none→Q (.ref t) (GZ H1 t (.tup [V.ref a,V.ref p])):=λps hps a H1 s1 ga t ht=>by have st:=Hc ht (.tup [V.ref a,V.ref p]);refine q t _ ((s0.trans s1).trans st) ?_;rw[hps];exact Ml Ha (RepYs.cons (JW (ga.same st) (due ps hps)) (RepYs.cons (LW (st _ _ (s1 _ _ e0)) RepYs.nil (by simp)) RepYs.nil)) (by simp)
 have k1:BB K (Value.ref cNoText) (List.map Iq [V.ref cFull,V.ref cNoDeed,V.ref cNoField,V.ref cNoHand,V.ref cNoLetter,V.ref cNoName,V.ref cNoNumber,V.ref cNoPiece,V.ref cNoPost,V.ref cNoRoad])=some false:=by show BB K (.ref cNoText) [.ref cFull,.ref cNoDeed,.ref cNoField,.ref cNoHand,.ref cNoLetter,.ref cNoName,.ref cNoNumber,.ref cNoPiece,.ref cNoPost,.ref cNoRoad]=some false;simp only[BB,Cl.n_Full,Cl.n_NoDeed,Cl.n_NoField,Cl.n_NoHand,Cl.n_NoLetter,Cl.n_NoName,Cl.n_NoNumber,Cl.n_NoPiece,Cl.n_NoPost,Cl.n_NoRoad]
 have k2:BB K (Value.ref cNoText) (List.map Iq [V.ref cNoRow,V.ref cNoSpan,V.ref cNoStands,V.ref cNotWanted,V.ref cNoWeb,V.ref cNoWish,V.ref cOnTheWay,V.ref cStuck])=some false:=by show BB K (.ref cNoText) [.ref cNoRow,.ref cNoSpan,.ref cNoStands,.ref cNotWanted,.ref cNoWeb,.ref cNoWish,.ref cOnTheWay,.ref cStuck]=some false;simp only[BB,Cl.n_NoRow,Cl.n_NoSpan,Cl.n_NoStands,Cl.n_NotWanted,Cl.n_NoWeb,Cl.n_NoWish,Cl.n_OnTheWay,Cl.n_Stuck]
 have k3:BB K (Value.ref cNoText) (List.map Iq [V.ref cTooMany,V.ref cTwice])=some false:=by show BB K (.ref cNoText) [.ref cTooMany,.ref cTwice]=some false;simp only[BB,Cl.n_TooMany,Cl.n_Twice]
 have none':IJ k d=none→∀H1,Same H0 H1→∀t,H1 t=none→∀kl,H1 kl=some (.lst [V.bl true,V.bl true,V.bl false])→Q (.ref t) (GZ H1 t (.tup [V.non,V.ref kl])):=λhn H1 s1 t ht kl hkl=>by have st:=Hc ht (.tup [V.non,V.ref kl]);refine q t _ ((s0.trans s1).trans st) ?_;rw[hn];exact Ml Ha (RepYs.cons (by rw[RepY]) (RepYs.cons (LW (st _ _ hkl) (RepYs.cons (by rw[RepY]) (RepYs.cons (by rw[RepY]) (RepYs.cons (by rw[RepY]) RepYs.nil))) (by simp)) RepYs.nil)) (by simp)
 rcases hk with rfl | rfl
 · refine⟨_,rfl,rfl,_,rfl,GW ⟨_,rfl,v,d,rfl,hd0,hl,λps hps a H1 s1 ga=>⟨_,rfl,_,rfl,Ii,λt ht=>good ps hps a H1 s1 ga t ht⟩,λhn H1 s1=>⟨cNoText,rfl,Cl.s_NoText,λa hna=>?_⟩⟩⟩;have s2:=s1.trans (Hc hna (J9 a cNoText));have ha:(GZ H1 a (J9 a cNoText)) a=some (J9 a cNoText):=Ha;generalize GZ H1 a (J9 a cNoText)=H2 at*;refine⟨_,rfl,(by show 10≤Ag;decide),λt1 h1=>⟨a,cNoText,t1,_,false,rfl,Hc h1 _ _ _ ha,Cl.at_,Ha,rfl,k1,?_⟩⟩;refine IA ?_;have s3:=Hc h1 (.tup [V.ref cFull,V.ref cNoDeed,V.ref cNoField,V.ref cNoHand,V.ref cNoLetter,V.ref cNoName,V.ref cNoNumber,V.ref cNoPiece,V.ref cNoPost,V.ref cNoRoad]);generalize GZ H2 t1 (.tup [V.ref cFull,V.ref cNoDeed,V.ref cNoField,V.ref cNoHand,V.ref cNoLetter,V.ref cNoName,V.ref cNoNumber,V.ref cNoPiece,V.ref cNoPost,V.ref cNoRoad])=H3 at*;have ha3:=s3 _ _ ha;refine⟨_,rfl,_,rfl,GW ⟨_,rfl,Q7,λt2 h2=>⟨a,cNoText,t2,_,false,rfl,Hc h2 _ _ _ ha3,Cl.at_,Ha,rfl,k2,?_⟩⟩⟩;refine IA ?_;have s4:=Hc h2 (.tup [V.ref cNoRow,V.ref cNoSpan,V.ref cNoStands,V.ref cNotWanted,V.ref cNoWeb,V.ref cNoWish,V.ref cOnTheWay,V.ref cStuck]);generalize GZ H3 t2 (.tup [V.ref cNoRow,V.ref cNoSpan,V.ref cNoStands,V.ref cNotWanted,V.ref cNoWeb,V.ref cNoWish,V.ref cOnTheWay,V.ref cStuck])=H4 at*;have ha4:=s4 _ _ ha3;refine⟨_,rfl,_,rfl,GW ⟨_,rfl,Ii,λt3 h3=>⟨a,cNoText,t3,_,false,rfl,Hc h3 _ _ _ ha4,Cl.at_,Ha,rfl,k3,?_⟩⟩⟩;refine IA ?_;have s5:=Hc h3 (.tup [V.ref cTooMany,V.ref cTwice]);generalize GZ H4 t3 (.tup [V.ref cTooMany,V.ref cTwice])=H5 at*;have ha5:=s5 _ _ ha4;refine⟨_,rfl,a,cNoText,.ref cNoText,true,rfl,ha5,Cl.at_,rfl,SI,_,rfl,a,cNoText,.ty "ValueError",true,rfl,ha5,Cl.at_,rfl,Cl.k_ve,_,rfl,Me,λkl hkl=>?_⟩;have s6:=Hc hkl (.lst [V.bl true,V.bl true,V.bl false]);exact⟨_,rfl,_,rfl,Ii,λt ht=>none' hn _ (s2.trans (s3.trans (s4.trans (s5.trans s6)))) t ht kl Ha⟩
 · refine⟨_,rfl,rfl,_,rfl,GX ⟨_,rfl,v,d,rfl,hd0,hl,λps hps a H1 s1 ga=>⟨_,rfl,_,rfl,Ii,λt ht=>good ps hps a H1 s1 ga t ht⟩,λhn H1 s1=>⟨cNoText,rfl,Cl.s_NoText,λa hna=>?_⟩⟩⟩;have s2:=s1.trans (Hc hna (J9 a cNoText));have ha:(GZ H1 a (J9 a cNoText)) a=some (J9 a cNoText):=Ha;generalize GZ H1 a (J9 a cNoText)=H2 at*;refine⟨_,rfl,(by show 10≤Ag;decide),λt1 h1=>⟨a,cNoText,t1,_,false,rfl,Hc h1 _ _ _ ha,Cl.at_,Ha,rfl,k1,?_⟩⟩;refine IA ?_;have s3:=Hc h1 (.tup [V.ref cFull,V.ref cNoDeed,V.ref cNoField,V.ref cNoHand,V.ref cNoLetter,V.ref cNoName,V.ref cNoNumber,V.ref cNoPiece,V.ref cNoPost,V.ref cNoRoad]);generalize GZ H2 t1 (.tup [V.ref cFull,V.ref cNoDeed,V.ref cNoField,V.ref cNoHand,V.ref cNoLetter,V.ref cNoName,V.ref cNoNumber,V.ref cNoPiece,V.ref cNoPost,V.ref cNoRoad])=H3 at*;have ha3:=s3 _ _ ha;refine⟨_,rfl,_,rfl,GW ⟨_,rfl,Q7,λt2 h2=>⟨a,cNoText,t2,_,false,rfl,Hc h2 _ _ _ ha3,Cl.at_,Ha,rfl,k2,?_⟩⟩⟩;refine IA ?_;have s4:=Hc h2 (.tup [V.ref cNoRow,V.ref cNoSpan,V.ref cNoStands,V.ref cNotWanted,V.ref cNoWeb,V.ref cNoWish,V.ref cOnTheWay,V.ref cStuck]);generalize GZ H3 t2 (.tup [V.ref cNoRow,V.ref cNoSpan,V.ref cNoStands,V.ref cNotWanted,V.ref cNoWeb,V.ref cNoWish,V.ref cOnTheWay,V.ref cStuck])=H4 at*;have ha4:=s4 _ _ ha3;refine⟨_,rfl,_,rfl,GW ⟨_,rfl,Ii,λt3 h3=>⟨a,cNoText,t3,_,false,rfl,Hc h3 _ _ _ ha4,Cl.at_,Ha,rfl,k3,?_⟩⟩⟩;refine IA ?_;have s5:=Hc h3 (.tup [V.ref cTooMany,V.ref cTwice]);generalize GZ H4 t3 (.tup [V.ref cTooMany,V.ref cTwice])=H5 at*;have ha5:=s5 _ _ ha4;refine⟨_,rfl,a,cNoText,.ref cNoText,true,rfl,ha5,Cl.at_,rfl,SI,_,rfl,a,cNoText,.ty "ValueError",true,rfl,ha5,Cl.at_,rfl,Cl.k_ve,_,rfl,Me,λkl hkl=>?_⟩;have s6:=Hc hkl (.lst [V.bl true,V.bl true,V.bl false]);exact⟨_,rfl,_,rfl,Ii,λt ht=>none' hn _ (s2.trans (s3.trans (s4.trans (s5.trans s6)))) t ht kl Ha⟩
theorem V5(F:Fun K "law" "law" Le f fd)(GN:Γ19 P w K mg base)(G5:Γ20 P w K mg base)(GO:Γ29 P w K mg base)(GQ:Γ28 P w K mg base)(GR:Γ39 P w K mg base)(GC:Γ30 P w K mg base)(GS:Γ36 P w K mg base)(G9:Γ27 P w K mg base)(GT:Γ40 P w K mg base):FnOk P w K mg base HH 12 f fd ["script"] (Nc K):=by
 refine F.ok Gj (λvs H Q E h=>?_) (λcdv A outer s H vs Q E hr h=>?_)
 · obtain⟨a,ns,rfl,hS,h63,q⟩:=h;rfl
 obtain⟨a,ns,rfl,hS,h63,q⟩:=h;refine⟨_,(Hb (Hz (i:=1) Gj.nd rfl (Or.inl rfl) (Hm GN (hr.mono (by decide)) rfl (GU (pv 0) GV)))
  (Hb (Hz (i:=2) Gj.nd rfl (Or.inl rfl) Hq)
  (Hb (KH BY rfl (Kq rfl B.range_ (GU G_ GV)) (HA (i:=3) Gj.nd rfl (Or.inl rfl)) (Hb (Hz (i:=4) Gj.nd rfl (Or.inl rfl) (Hi Jq G_ (Hm G5 (hr.mono (by decide)) rfl (GU (pv 1) (GU G_ GV)))))
  (Hb (Hz (i:=5) Gj.nd rfl (Or.inl rfl) (Hm G5 (hr.mono (by decide)) rfl (GU (pv 1) (GU G_ GV))))
  (Hb (Hz (i:=6) Gj.nd rfl (Or.inl rfl) (J4 HL (Hm G5 (hr.mono (by decide)) rfl (GU (pv 1) (GU G_ GV))) G_ (Hh _)))
  (Hb (Hz (i:=7) Gj.nd rfl (Or.inl rfl) (Hm GO (hr.mono (by decide)) rfl (GU (Hm GQ (hr.mono (by decide)) rfl (GU (pv 1) (GU (Jm (Iz (pv 6)) (Hi JU G_ (pv 4)) (pv 4)) (GU G_ GV)))) GV)))
  (Hb (KH BY rfl (Kq rfl B.range_ (GU (Hi Lg (pv 5) G_) GV)) (HA (i:=8) Gj.nd rfl (Or.inl rfl)) (Hd (Hz (i:=7) Gj.nd rfl (Or.inl rfl) (Hm GR (hr.mono (by decide)) rfl (GU (pv 1) (GU (pv 7) GV))))))
  (Hb (HD (Ho HL (pv 5) G_ (Hh _)) (Hd (Hz (i:=7) Gj.nd rfl (Or.inl rfl) (Hm GC (hr.mono (by decide)) rfl (GU (pv 1) (GU G_ GV))))) HI)
  (Hb (KH BY rfl (Kg (IC (GU (pv 7) (GU (pv 2) (GU (pv 7) GV))))) (HA (i:=9) Gj.nd rfl (Or.inl rfl)) (Hb (Hz (i:=10) Gj.nd rfl (Or.inl rfl) (Hr (TM hr) rfl B.repr_ R9 (GU (pv 9) GV)))
  (Hb (Hz (i:=11) Gj.nd rfl (Or.inl rfl) (Jm (Iz (Hr (Iy (n:="")) rfl B.isinstance_ HX (GU (pv 9) (GU (HZ (v:= .ty "str") rfl B.str_ KC rfl) GV)))) (Hm GS (hr.mono (by decide)) rfl (GU (pv 9) (GU (pv 4) GV))) J8))
  (Hb (HD (IM (Iz (Hm G9 (hr.mono (by decide)) rfl (GU (Hm GT (hr.mono (by decide)) rfl (GU (pv 9) (GU (pv 4) GV))) (GU (IU (GU (pv 11) (GU (Jm (Mh (J_ (pv 11))) (IC (GU Iv (GU Iv (GU Iv GV)))) (IC GV)) GV))) GV))))) (Hd (Hf Iv)) HI)
  (Hd (HD (Ho JH (Hr (TM hr) rfl B.repr_ R9 (GU (pv 9) GV)) (pv 10) (Hh _)) (Hd (Hf Iv)) HI))))))
  (Hd (Hz (i:=2) Gj.nd rfl (Or.inl rfl) (Jm (Iz (Hr (Iy (n:="")) rfl B.isinstance_ HX (GU (pv 7) (GU (HZ (v:= .ty "str") rfl B.str_ KC rfl) GV)))) (pv 7) (pv 2))))))))))))
  (Hd (Hf Iv))))),?_⟩
 refine⟨_,rfl,a,ns,rfl,hS,h63,λb g l H1 B1 S1 nb ng=>?_⟩;refine⟨10,rfl,by decide,by decide,OW (n:=10) (λi σ H'=>(∃(la:Str)(y3 y4 y5 y6 y7 y8 y9 y10 y11:Option V),σ=[some (.ref a),some (.ref b),some (.str la),y3,y4,y5,y6,y7,y8,y9,y10,y11]∧la.length≤2400∧Lw la)∧Bag H' b g l (3000*(i:Int))) ?_ ?_ ?_⟩
 · exact⟨⟨_,none,none,none,none,none,none,none,none,none,rfl,Xq⟩,B1.mono (by decide)⟩
 · rintro i σ H2 hi ⟨⟨la,y3,y4,y5,y6,y7,y8,y9,y10,y11,rfl,ll,llw⟩,B2⟩;refine⟨_,rfl,b,g,l,_,2,rfl,B2,by omega,by decide,by decide,λc H3 c0 c1 B3 S3=>⟨_,_,rfl,rfl,?_⟩⟩;refine⟨_,rfl,b,g,l,_,5,rfl,B3,by omega,by decide,by decide,λsp H4 p0 p1 B4 S4=>?_⟩;refine⟨_,rfl,b,g,l,_,8,rfl,B4,by omega,by decide,by decide,λo H5 o0 o1 B5 S5=>⟨rfl,?_⟩⟩;generalize decide (V.int o=V.int 7)=ob;have hk:2+c=2∨2+c=3:=by omega
   refine⟨_,rfl,_,rfl,_,rfl,Yj hk rfl λm hm=>?_⟩;refine⟨b,g,l,_,m,4,rfl,B5,by omega,by decide,by decide,hm,λth H6 T6 B6 S6=>?_⟩;obtain⟨gw,ga,gok,gl⟩:=T6.gen;refine⟨th,gw,rfl,ga,gok,λx0 H7 s7 hx0=>?_⟩;obtain⟨x0l,x0w⟩:=gl x0 hx0;have B7:=B6.same s7;obtain⟨N,eN,N0,N3⟩:∃N:Int,sp%4=N∧0≤N∧N≤3:=⟨_,rfl,by omega,by omega⟩;refine⟨_,rfl,_,_,rfl,rfl,(by show(0:Int)<4;decide),N,congrArg (λn=>[V.int n]) eN,by omega,by omega,OW (n:=N.toNat) (λj σ H'=>(∃(x:Str)(y8:Option V),σ=[some (.ref a),some (.ref b),some (.str la),some (.int (0+(i:Int))),some (.int (2+c)),some (.int sp),some (.bl ob),some (.str x),y8,y9,y10,y11]∧x.length≤JX j∧Lw x)∧Bag H' b g l (3000*(i:Int)+500+12*(j:Int))) ?_ ?_ ?_⟩
   · exact⟨⟨x0,y8,rfl,x0l,x0w⟩,B7.mono (by omega)⟩
   · rintro j σ H8 hj ⟨⟨x,y8,rfl,xl,xw⟩,B8⟩;have:=Wh (show j<3 by omega);exact⟨_,rfl,_,rfl,b,g,l,_,x,rfl,B8,by omega,by omega,xw,λy H9 yl yw B9 S9=>⟨⟨y,_,rfl,by rw[JX];omega,yw⟩,B9.mono (by omega)⟩⟩
   · rintro σ H8 ⟨⟨x,y8,rfl,xl,xw⟩,B8⟩;have xl2:=WF (show N.toNat≤3 by omega);dsimp only;refine Nl (λσ' H'=>∃(v:V)(d:DY),σ'=[some (.ref a),some (.ref b),some (.str la),some (.int (0+(i:Int))),some (.int (2+c)),some (.int sp),some (.bl ob),some v,y8,y9,y10,y11]∧Asked H' v d∧Bag H' b g l (3000*(i:Int)+800)) (λZ hZ=>?_) ?_
     · refine⟨_,rfl,rfl,_,rfl,Hx (λ_=>?_) (λ_=>?_)⟩
       · refine⟨_,rfl,2,by decide,b,g,l,_,rfl,B8,?_,λv d H9 r9 d9 z9 B9 S9=>hZ _ _ ⟨v,d,rfl,⟨RepY.same (UT _ _) d r9,z9.1.top (by decide),λy e=>⟨A8 (z9.2 y e).1 (by decide),(z9.2 y e).2⟩⟩,B9.mono ?_⟩⟩
         · show _+Ju 2≤10^8;unfold Ju;omega
         · show _+Ju 2≤_;unfold Ju;omega
       · exact hZ _ _ ⟨_,_,rfl,SV (by omega) xw,B8.mono (by omega)⟩
     rintro σ' H9 ⟨v,d,rfl,av,B9⟩;refine⟨_,rfl,_,rfl,_,rfl,Me,λp hp=>?_⟩;have s10:=Hc hp (.lst [v,V.str la,v]);have g10:(GZ H9 p (.lst [v,V.str la,v])) p=some (.lst [v,V.str la,v]):=Ha;have B10:=B9.same s10;generalize GZ H9 p (.lst [v,V.str la,v])=H10 at*;have av10:=av.same s10;refine⟨p,rfl,⟨_,SqL.of g10⟩,My (K:=K) (a:=p) (xs:=[v,V.str la,v]) (λj σ H'=>(∃(z9 z10 z11:Option V),σ=[some (.ref a),some (.ref b),some (.str la),some (.int (0+(i:Int))),some (.int (2+c)),some (.int sp),some (.bl ob),some v,y8,z9,z10,z11])∧Same H10 H') ⟨⟨_,_,_,rfl⟩,Same.refl _⟩ (λj σ H' _ ⟨_,s⟩=>SqL.of (s _ _ g10)) ?_ ?_⟩
     · rintro j w σ H11 hw ⟨⟨z9,z10,z11,rfl⟩,s11⟩;obtain⟨e,ae⟩:∃e,Asked H11 w e:=by
        match j,hw with
        | 0,hw=>exact⟨d,by rw[←Am hw];exact av10.same s11⟩
        | 1,hw=>exact⟨.str la,by rw[←Am hw];exact SV ll llw⟩
        | 2,hw=>exact⟨d,by rw[←Am hw];exact av10.same s11⟩
        | j+3,hw=>simp at hw
       have el:∀y,e= .str y→y.length≤2400:=λy h=>(ae.2.2 y h).1;refine⟨_,rfl,w,e,rfl,ae.1,ae.2.1,?_⟩;refine U8 rfl rfl ae.1 hk el λdv H12 s12 dd=>?_;have ae12:=ae.same s12;refine⟨_,rfl,_,rfl,w,e,2+c,rfl,hk,ae12.1,el,λta H13 s13 rt=>?_⟩;have dd13:Q6 (2+c) e dv H13:=by
        rcases dd with h | ⟨a',ps,h1,h2,h3⟩
        · exact .inl h
        · exact .inr ⟨a',ps,h1,h2,h3.same s13⟩
       refine W1 rfl dd13 (λps h=>Vy el h) λtd H14 s14 rd=>?_;refine⟨4,by decide,.ref ta,.ref td,_,rfl,by decide,RepY.same s14 _ rt,rd,Yi _,λH15 s15=>⟨_,rfl,GW ?_⟩⟩;have s1115:=s12.trans (s13.trans (s14.trans s15));have ae15:=ae.same s1115;exact⟨_,rfl,w,e,rfl,ae15.1,ae15.2.1,_,rfl,rfl,_,rfl,Ou rfl ⟨⟨_,_,_,rfl⟩,s11.trans s1115⟩⟩
     · rintro σ H11 ⟨⟨z9,z10,z11,rfl⟩,s11⟩;have av11:=av10.same s11;have B11:=B10.same s11;cases d with
       | str y=> obtain⟨yl,yw⟩:=av11.2.2 y rfl;have r:=av11.1;rw[RepY] at r;obtain⟨rfl,_⟩:=r;exact⟨_,rfl,_,"str","str",true,rfl,.str y,rfl,_,rfl,GX ⟨_,rfl,⟨y,_,_,_,_,_,_,_,_,_,rfl,yl,yw⟩,B11.mono (by omega)⟩⟩
       | _=>exact⟨_,rfl,_,_,"str",false,rfl,av11.1.ty,rfl,_,rfl,GW ⟨_,rfl,⟨la,_,_,_,_,_,_,_,_,_,rfl,ll,llw⟩,B11.mono (by omega)⟩⟩
 · rintro σ H2 ⟨_,_⟩;exact q H2
end
open PySem.W (nsIn mg_of mg_none_of fnOf keepIn codeIn)
abbrev dF(n:Str)(s:Stmt):=fnOf n n (Kd s) (Ji s) (Hg s) .none
theorem Ih{st:Stmt}{f:Addr}{fd:Bf}{p0:Str}(F:Fun K x x st f fd)(h:∀(kV doc pm:Value)(an:Option Addr)(cdv ct u0:Value),bindArgs (fnOf x x (Kd st) (Ji st) (Hg st) .none kV doc pm an cdv ct) ⟨[u0],[]⟩=pure [(p0,u0)]:=by intros;rfl):Binds K fd [p0] []:=
 F.binds λkV doc pm an cdv ct=>lS λu0=>l0 (h kV doc pm an cdv ct u0)
theorem JQ{st:Stmt}{f:Addr}{fd:Bf}{p0 p1:Str}(F:Fun K x x st f fd)(h:∀(kV doc pm:Value)(an:Option Addr)(cdv ct u0 u1:Value),bindArgs (fnOf x x (Kd st) (Ji st) (Hg st) .none kV doc pm an cdv ct) ⟨[u0,u1],[]⟩=pure [(p0,u0),(p1,u1)]:=by intros;rfl):Binds K fd [p0,p1] []:=
 F.binds λkV doc pm an cdv ct=>lS λu0=>lS λu1=>l0 (h kV doc pm an cdv ct u0 u1)
theorem ZU{st:Stmt}{f:Addr}{fd:Bf}{p0 p1 p2:Str}(F:Fun K x x st f fd)(h:∀(kV doc pm:Value)(an:Option Addr)(cdv ct u0 u1 u2:Value),bindArgs (fnOf x x (Kd st) (Ji st) (Hg st) .none kV doc pm an cdv ct) ⟨[u0,u1,u2],[]⟩=pure [(p0,u0),(p1,u1),(p2,u2)]:=by intros;rfl):Binds K fd [p0,p1,p2] []:=
 F.binds λkV doc pm an cdv ct=>lS λu0=>lS λu1=>lS λu2=>l0 (h kV doc pm an cdv ct u0 u1 u2)
structure KF(K:Af)(x:Str)(st:Stmt)(f:Addr)(fd:Bf):Prop where
 a:nsIn K Ak x=some (some (.ref f))
 F:Fun K x x st f fd
theorem all_mk{l:E_}{w:World}{mg:Str→Option Value}{fa f1 f2 f3 f4 f5 f6 f7 f8 f9 f10 f11 f12 f13 f14 f15 f16 f17 f18 f19 f20 f21 f22 f23 f24 f25 f26 f27 f28 f29 f30 f31 f32 f33 f34 f35 f36 f37 f38 f39 f40 f41 f42:Addr}{g1 g2 g3 g4 g5 g6 g7 g8 g9 g10 g11 g12 g13 g14 g15 g16 g17 g18 g19 g20 g21 g22 g23 g24 g25 g26 g27 g28 g29 g30 g31 g32 g33 g34 g35 g36 g37 g38 g39 g40 g41 g42:Bf}(X:K.In h)(G:h.Ns Ak mg)(hfa:mg "law"=some (.ref fa))
 (h1:KF K "is_whole" Pl f1 g1)
 (h2:KF K "is_end" Pe f2 g2)
 (h3:KF K "is_span" Pn f3 g3)
 (h4:KF K "is_field" ND f4 g4)
 (h5:KF K "is_wish_part" P8 f5 g5)
 (h6:KF K "is_piece_part" PF f6 g6)
 (h7:KF K "fields_ascend" NX f7 g7)
 (h8:KF K "is_wish" NQ f8 g8)
 (h9:KF K "is_piece" NE f9 g9)
 (h10:KF K "check_written" PB f10 g10)
 (h11:KF K "check_text" Pr f11 g11)
 (h12:KF K "words_in" P7 f12 g12)
 (h13:KF K "count_in" NC f13 g13)
 (h14:KF K "number_in" Py f14 g14)
 (h15:KF K "end_in" Pd f15 g15)
 (h16:KF K "wish_part_in" P9 f16 g16)
 (h17:KF K "piece_part_in" PH f17 g17)
 (h18:KF K "read_wish" Ob f18 g18)
 (h19:KF K "read_piece" NZ f19 g19)
 (h20:KF K "_law_bag" Mv f20 g20)
 (h21:KF K "_law_draw" P0 f21 g21)
 (h22:KF K "_law_number" Ps f22 g22)
 (h23:KF K "_law_held" P2 f23 g23)
 (h24:KF K "_law_span" P5 f24 g24)
 (h25:KF K "_law_whole" Px f25 g25)
 (h26:KF K "_law_field" M4 f26 g26)
 (h27:KF K "_law_fields" NY f27 g27)
 (h28:KF K "_law_same" NG f28 g28)
 (h29:KF K "_law_made" P3 f29 g29)
 (h30:KF K "_law_written" NU f30 g30)
 (h31:KF K "_law_plain" N_ f31 g31)
 (h32:KF K "_law_is_field" NV f32 g32)
 (h33:KF K "_law_is_span" PK f33 g33)
 (h34:KF K "_law_is_made" PJ f34 g34)
 (h35:KF K "_law_value" Oa f35 g35)
 (h36:KF K "_law_part_of" M2 f36 g36)
 (h37:KF K "_law_read" NF f37 g37)
 (h38:KF K "_law_sign" P4 f38 g38)
 (h39:KF K "_law_other_word" Ky f39 g39)
 (h40:KF K "_law_bent" Pm f40 g40)
 (h41:KF K "_law_told" P6 f41 g41)
 (h42:KF K "law" Le f42 g42)
 {tML':Tok} (eML':nsIn K Ak "MOST_LETTERS"=some (some (.int 8 tML')))
 {tMF':Tok} (eMF':nsIn K Ak "MOST_FIGURES"=some (some (.int 15 tMF')))
 {fI cNewsError cNoSpan cNoNumber cNoField cNoWish cNoPiece cTooMany cNoName cTwice cNotWanted cNoWeb cNoPost cNoRoad cNoHand cNoLetter cOnTheWay cFull cNoStands cNoDeed cNoText cNoRow cStuck:Addr} {od_i an_i:Option Addr} {sl_i:Array (Option Value)} {oc_i kV_i dc_i pm_i cd_i ct_i:Value} {nmN qN nmW qW:Str} {NN NW:Addr} {bsN bmN bsW bmW:List Value} {hdN hdW:Bool} {snN snW:List Str} {subN subW:List Value} {abN abW:Bool} {colN colW:Option Bool} {ddN ddW:Option Addr} {kN0 kN1 kN2 kN3 kN5 kW0 kW1 kW2 kW3 kW5:Option Value}
 (y_NewsError:AL K Ak "NewsError"=some (some (.ref cNewsError)))
 (y_NoSpan:AL K Ak "NoSpan"=some (some (.ref cNoSpan)))
 (y_NoNumber:AL K Ak "NoNumber"=some (some (.ref cNoNumber)))
 (y_NoField:AL K Ak "NoField"=some (some (.ref cNoField)))
 (y_NoWish:AL K Ak "NoWish"=some (some (.ref cNoWish)))
 (y_NoPiece:AL K Ak "NoPiece"=some (some (.ref cNoPiece)))
 (y_TooMany:AL K Ak "TooMany"=some (some (.ref cTooMany)))
 (y_NoName:AL K Ak "NoName"=some (some (.ref cNoName)))
 (y_Twice:AL K Ak "Twice"=some (some (.ref cTwice)))
 (y_NotWanted:AL K Ak "NotWanted"=some (some (.ref cNotWanted)))
 (y_NoWeb:AL K Ak "NoWeb"=some (some (.ref cNoWeb)))
 (y_NoPost:AL K Ak "NoPost"=some (some (.ref cNoPost)))
 (y_NoRoad:AL K Ak "NoRoad"=some (some (.ref cNoRoad)))
 (y_NoHand:AL K Ak "NoHand"=some (some (.ref cNoHand)))
 (y_NoLetter:AL K Ak "NoLetter"=some (some (.ref cNoLetter)))
 (y_OnTheWay:AL K Ak "OnTheWay"=some (some (.ref cOnTheWay)))
 (y_Full:AL K Ak "Full"=some (some (.ref cFull)))
 (y_NoStands:AL K Ak "NoStands"=some (some (.ref cNoStands)))
 (y_NoDeed:AL K Ak "NoDeed"=some (some (.ref cNoDeed)))
 (y_NoText:AL K Ak "NoText"=some (some (.ref cNoText)))
 (y_NoRow:AL K Ak "NoRow"=some (some (.ref cNoRow)))
 (y_Stuck:AL K Ak "Stuck"=some (some (.ref cStuck)))
 (y_N:K.lookup cNewsError=some (excClassObj nmN qN cNewsError NN bsN bmN hdN snN subN abN colN ddN kN0 kN1 kN2 kN3 kN5 "ValueError.__new__"))
 (y_W:K.lookup cNoText=some (excClassObj nmW qW cNoText NW bsW bmW hdW snW subW abW colW ddW kW0 kW1 kW2 kW3 kW5 "ValueError.__new__"))
 (y_bN:BmOk "ValueError" bmN)
 (y_bW:BmOk "ValueError" bmW)
 (y_WN:(Value.ref cNoText::bmW).contains (.ref cNewsError)=true)
 (y_iW:BV K (.ref cNoText) "__init__"=some (some (.ref fI)))
 (y_kW:Cp K (.ref cNoText)=true)
 (y_li:K.lookup fI=some ⟨oc_i,od_i,.func (CJ "__init__" "NewsError.__init__" (Kd LN) (Ji LN) (Hg LN) .none kV_i dc_i pm_i an_i cd_i ct_i),sl_i⟩)
 (y_ci:El K cd_i "NewsError.__init__"=true)
 (y_ki:Cp K (.ref fI)=true)
 (y_oi:oc_i= .type "function")
 (y_g1:BV K (.ref cNoText) "__getattribute__"=some (some (.builtin "BaseException.__getattribute__")))
 (y_g2:BV K (.ref cNoText) "__getattr__"=some none)
 (y_g3:BV K (.ref cNoText) "__class__"=some (some (.builtin "object.__class__")))
 (y_g4:An K cNoText (.type "object")=some true)
 (y_g5:An K cNoText (.type "BaseException")=some true)
 (y_g6:An K cNoText (.type "ValueError")=some true)
 (y_ve:AL K Ak "ValueError"=some none)
 (t_NoSpan:AH K (.ref cNoSpan)=some (.type "type"))
 (ob_NoSpan:An K cNoSpan (.type "object")=some true)
 (mr_NoSpan:An K cNoText (.ref cNoSpan)=some false)
 (ne_NoSpan:(Value.ref cNoText==Value.ref cNoSpan)=false)
 (t_NoNumber:AH K (.ref cNoNumber)=some (.type "type"))
 (ob_NoNumber:An K cNoNumber (.type "object")=some true)
 (mr_NoNumber:An K cNoText (.ref cNoNumber)=some false)
 (ne_NoNumber:(Value.ref cNoText==Value.ref cNoNumber)=false)
 (t_NoField:AH K (.ref cNoField)=some (.type "type"))
 (ob_NoField:An K cNoField (.type "object")=some true)
 (mr_NoField:An K cNoText (.ref cNoField)=some false)
 (ne_NoField:(Value.ref cNoText==Value.ref cNoField)=false)
 (t_NoWish:AH K (.ref cNoWish)=some (.type "type"))
 (ob_NoWish:An K cNoWish (.type "object")=some true)
 (mr_NoWish:An K cNoText (.ref cNoWish)=some false)
 (ne_NoWish:(Value.ref cNoText==Value.ref cNoWish)=false)
 (t_NoPiece:AH K (.ref cNoPiece)=some (.type "type"))
 (ob_NoPiece:An K cNoPiece (.type "object")=some true)
 (mr_NoPiece:An K cNoText (.ref cNoPiece)=some false)
 (ne_NoPiece:(Value.ref cNoText==Value.ref cNoPiece)=false)
 (t_TooMany:AH K (.ref cTooMany)=some (.type "type"))
 (ob_TooMany:An K cTooMany (.type "object")=some true)
 (mr_TooMany:An K cNoText (.ref cTooMany)=some false)
 (ne_TooMany:(Value.ref cNoText==Value.ref cTooMany)=false)
 (t_NoName:AH K (.ref cNoName)=some (.type "type"))
 (ob_NoName:An K cNoName (.type "object")=some true)
 (mr_NoName:An K cNoText (.ref cNoName)=some false)
 (ne_NoName:(Value.ref cNoText==Value.ref cNoName)=false)
 (t_Twice:AH K (.ref cTwice)=some (.type "type"))
 (ob_Twice:An K cTwice (.type "object")=some true)
 (mr_Twice:An K cNoText (.ref cTwice)=some false)
 (ne_Twice:(Value.ref cNoText==Value.ref cTwice)=false)
 (t_NotWanted:AH K (.ref cNotWanted)=some (.type "type"))
 (ob_NotWanted:An K cNotWanted (.type "object")=some true)
 (mr_NotWanted:An K cNoText (.ref cNotWanted)=some false)
 (ne_NotWanted:(Value.ref cNoText==Value.ref cNotWanted)=false)
 (t_NoWeb:AH K (.ref cNoWeb)=some (.type "type"))
 (ob_NoWeb:An K cNoWeb (.type "object")=some true)
 (mr_NoWeb:An K cNoText (.ref cNoWeb)=some false)
 (ne_NoWeb:(Value.ref cNoText==Value.ref cNoWeb)=false)
 (t_NoPost:AH K (.ref cNoPost)=some (.type "type"))
 (ob_NoPost:An K cNoPost (.type "object")=some true)
 (mr_NoPost:An K cNoText (.ref cNoPost)=some false)
 (ne_NoPost:(Value.ref cNoText==Value.ref cNoPost)=false)
 (t_NoRoad:AH K (.ref cNoRoad)=some (.type "type"))
 (ob_NoRoad:An K cNoRoad (.type "object")=some true)
 (mr_NoRoad:An K cNoText (.ref cNoRoad)=some false)
 (ne_NoRoad:(Value.ref cNoText==Value.ref cNoRoad)=false)
 (t_NoHand:AH K (.ref cNoHand)=some (.type "type"))
 (ob_NoHand:An K cNoHand (.type "object")=some true)
 (mr_NoHand:An K cNoText (.ref cNoHand)=some false)
 (ne_NoHand:(Value.ref cNoText==Value.ref cNoHand)=false)
 (t_NoLetter:AH K (.ref cNoLetter)=some (.type "type"))
 (ob_NoLetter:An K cNoLetter (.type "object")=some true)
 (mr_NoLetter:An K cNoText (.ref cNoLetter)=some false)
 (ne_NoLetter:(Value.ref cNoText==Value.ref cNoLetter)=false)
 (t_OnTheWay:AH K (.ref cOnTheWay)=some (.type "type"))
 (ob_OnTheWay:An K cOnTheWay (.type "object")=some true)
 (mr_OnTheWay:An K cNoText (.ref cOnTheWay)=some false)
 (ne_OnTheWay:(Value.ref cNoText==Value.ref cOnTheWay)=false)
 (t_Full:AH K (.ref cFull)=some (.type "type"))
 (ob_Full:An K cFull (.type "object")=some true)
 (mr_Full:An K cNoText (.ref cFull)=some false)
 (ne_Full:(Value.ref cNoText==Value.ref cFull)=false)
 (t_NoStands:AH K (.ref cNoStands)=some (.type "type"))
 (ob_NoStands:An K cNoStands (.type "object")=some true)
 (mr_NoStands:An K cNoText (.ref cNoStands)=some false)
 (ne_NoStands:(Value.ref cNoText==Value.ref cNoStands)=false)
 (t_NoDeed:AH K (.ref cNoDeed)=some (.type "type"))
 (ob_NoDeed:An K cNoDeed (.type "object")=some true)
 (mr_NoDeed:An K cNoText (.ref cNoDeed)=some false)
 (ne_NoDeed:(Value.ref cNoText==Value.ref cNoDeed)=false)
 (t_NoRow:AH K (.ref cNoRow)=some (.type "type"))
 (ob_NoRow:An K cNoRow (.type "object")=some true)
 (mr_NoRow:An K cNoText (.ref cNoRow)=some false)
 (ne_NoRow:(Value.ref cNoText==Value.ref cNoRow)=false)
 (t_Stuck:AH K (.ref cStuck)=some (.type "type"))
 (ob_Stuck:An K cStuck (.type "object")=some true)
 (mr_Stuck:An K cNoText (.ref cStuck)=some false)
 (ne_Stuck:(Value.ref cNoText==Value.ref cStuck)=false)
 (z_len:nsIn K Ak "len"=some none)
 (z_range:nsIn K Ak "range"=some none)
 (z_isinstance:nsIn K Ak "isinstance"=some none)
 (z_int:nsIn K Ak "int"=some none)
 (z_bool:nsIn K Ak "bool"=some none)
 (z_tuple:nsIn K Ak "tuple"=some none)
 (z_list:nsIn K Ak "list"=some none)
 (z_max:nsIn K Ak "max"=some none)
 (z_min:nsIn K Ak "min"=some none)
 (z_all:nsIn K Ak "all"=some none)
 (z_zip:nsIn K Ak "zip"=some none)
 (z_str:nsIn K Ak "str"=some none)
 (z_dict:nsIn K Ak "dict"=some none)
 (z_sorted:nsIn K Ak "sorted"=some none)
 (z_set:nsIn K Ak "set"=some none)
 (z_any:nsIn K Ak "any"=some none)
 (z_sum:nsIn K Ak "sum"=some none)
 (z_enumerate:nsIn K Ak "enumerate"=some none)
 (z_repr:nsIn K Ak "repr"=some none)
 (z_ord:nsIn K Ak "ord"=some none)
 (z_chr:nsIn K Ak "chr"=some none)
 (z_abs:nsIn K Ak "abs"=some none)
 (z_reversed:nsIn K Ak "reversed"=some none)
 :∃fd:Bf,(∀(s:Shared)(v:Value),BindsTo s fd ⟨[v],[]⟩ [("script",v)])∧∀base:Heap,K.In base→base.Ns Ak mg→FnOk l.prog w K mg base HH 12 fa fd ["script"] (Nc K):=by
 have e:=hfa.symm.trans (AC X G h42.a);cases e;obtain⟨_,⟨⟨oc,od,kV,dc,pm,an,cd,ct,sl,rfl,l',c'⟩,k'⟩⟩:=h42;have B:Bl mg:=⟨mg_none_of X G z_len,mg_none_of X G z_range,mg_none_of X G z_isinstance,mg_none_of X G z_int,mg_none_of X G z_bool,mg_none_of X G z_tuple,mg_none_of X G z_list,mg_none_of X G z_max,mg_none_of X G z_min,mg_none_of X G z_all,mg_none_of X G z_zip,mg_none_of X G z_str,mg_none_of X G z_dict,mg_none_of X G z_sorted,mg_none_of X G z_set,mg_none_of X G z_any,mg_none_of X G z_sum,mg_none_of X G z_enumerate,mg_none_of X G z_repr,mg_none_of X G z_ord,mg_none_of X G z_chr,mg_none_of X G z_abs,mg_none_of X G z_reversed⟩;refine⟨CJ "law" "law" (Kd Le) (Ji Le) (Hg Le) .none kV dc pm an cd ct,λs v=> .of_eq rfl,λbase _ _  =>?_⟩;have QML':=mg_of X G eML';have QMF':=mg_of X G eMF';have Fi:=fun_mk (st:=LN) y_li y_ci y_ki;have b_init:=Fi.binds (ps:=["self","text"]) λ_ _ _ _ _ _=>lS λ_=>lS λ_=>l0 rfl
 have V0:mg "ValueError"=none:=PySem.W.mg_none_of X G y_ve;have F_init:=Wo (P:=l.prog) (w:=w) (base:=base) Fi V0;have xN:L3 K cNewsError:=⟨_,_,_,_,_,_,_,_,_,_,_,_,_,_,_,_,y_N,y_bN⟩;have xW:L3 K cNoText:=⟨_,_,_,_,_,_,_,_,_,_,_,_,_,_,_,_,y_W,y_bW⟩;have Cl:Kls K mg fI cNewsError cNoSpan cNoNumber cNoField cNoWish cNoPiece cTooMany cNoName cTwice cNotWanted cNoWeb cNoPost cNoRoad cNoHand cNoLetter cOnTheWay cFull cNoStands cNoDeed cNoText cNoRow cStuck:={
  ve:=V0
  m_NewsError:=AC X G y_NewsError
  m_NoSpan:=AC X G y_NoSpan
  m_NoNumber:=AC X G y_NoNumber
  m_NoField:=AC X G y_NoField
  m_NoWish:=AC X G y_NoWish
  m_NoPiece:=AC X G y_NoPiece
  m_TooMany:=AC X G y_TooMany
  m_NoName:=AC X G y_NoName
  m_Twice:=AC X G y_Twice
  m_NotWanted:=AC X G y_NotWanted
  m_NoWeb:=AC X G y_NoWeb
  m_NoPost:=AC X G y_NoPost
  m_NoRoad:=AC X G y_NoRoad
  m_NoHand:=AC X G y_NoHand
  m_NoLetter:=AC X G y_NoLetter
  m_OnTheWay:=AC X G y_OnTheWay
  m_Full:=AC X G y_Full
  m_NoStands:=AC X G y_NoStands
  m_NoDeed:=AC X G y_NoDeed
  m_NoText:=AC X G y_NoText
  m_NoRow:=AC X G y_NoRow
  m_Stuck:=AC X G y_Stuck
  x_NoText:=⟨xW,y_iW,⟨_,y_li,y_oi⟩,y_kW⟩
  o_NewsError:=xN
  s_NoText:=⟨_,_,_,_,_,_,_,_,_,_,_,_,_,_,_,_,y_W,y_WN⟩
  at_:=⟨y_g1,y_g2,y_g3,y_g4,y_g5⟩
  k_ve:=VS y_g6
  n_NoSpan:=IT t_NoSpan ob_NoSpan mr_NoSpan ne_NoSpan
  n_NoNumber:=IT t_NoNumber ob_NoNumber mr_NoNumber ne_NoNumber
  n_NoField:=IT t_NoField ob_NoField mr_NoField ne_NoField
  n_NoWish:=IT t_NoWish ob_NoWish mr_NoWish ne_NoWish
  n_NoPiece:=IT t_NoPiece ob_NoPiece mr_NoPiece ne_NoPiece
  n_TooMany:=IT t_TooMany ob_TooMany mr_TooMany ne_TooMany
  n_NoName:=IT t_NoName ob_NoName mr_NoName ne_NoName
  n_Twice:=IT t_Twice ob_Twice mr_Twice ne_Twice
  n_NotWanted:=IT t_NotWanted ob_NotWanted mr_NotWanted ne_NotWanted
  n_NoWeb:=IT t_NoWeb ob_NoWeb mr_NoWeb ne_NoWeb
  n_NoPost:=IT t_NoPost ob_NoPost mr_NoPost ne_NoPost
  n_NoRoad:=IT t_NoRoad ob_NoRoad mr_NoRoad ne_NoRoad
  n_NoHand:=IT t_NoHand ob_NoHand mr_NoHand ne_NoHand
  n_NoLetter:=IT t_NoLetter ob_NoLetter mr_NoLetter ne_NoLetter
  n_OnTheWay:=IT t_OnTheWay ob_OnTheWay mr_OnTheWay ne_OnTheWay
  n_Full:=IT t_Full ob_Full mr_Full ne_Full
  n_NoStands:=IT t_NoStands ob_NoStands mr_NoStands ne_NoStands
  n_NoDeed:=IT t_NoDeed ob_NoDeed mr_NoDeed ne_NoDeed
  n_NoRow:=IT t_NoRow ob_NoRow mr_NoRow ne_NoRow
  n_Stuck:=IT t_Stuck ob_Stuck mr_Stuck ne_Stuck
 }
 have Gk:Γ0 l.prog w K mg base:=⟨_,_,YH B Cl F_init b_init QML' QMF' h1.F,Ih h1.F,h1.F.2,mg_of X G h1.a⟩;have Gm:Γ1 l.prog w K mg base:=⟨_,_,Xw B Cl F_init b_init QML' QMF' h2.F Gk,Ih h2.F,h2.F.2,mg_of X G h2.a⟩;have Go:Γ2 l.prog w K mg base:=⟨_,_,XU B Cl F_init b_init QML' QMF' h3.F Gm,Ih h3.F,h3.F.2,mg_of X G h3.a⟩;have Gn:Γ3 l.prog w K mg base:=⟨_,_,YF B Cl F_init b_init QML' QMF' h4.F,Ih h4.F,h4.F.2,mg_of X G h4.a⟩;have Gq:Γ4 l.prog w K mg base:=⟨_,_,ZB B Cl F_init b_init QML' QMF' h5.F Gn Go,Ih h5.F,h5.F.2,mg_of X G h5.a⟩;have Gr:Γ5 l.prog w K mg base:=⟨_,_,ZH B Cl F_init b_init QML' QMF' h6.F Gn Gk,Ih h6.F,h6.F.2,mg_of X G h6.a⟩;have Gp:Γ6 l.prog w K mg base:=⟨_,_,ZG B Cl F_init b_init QML' QMF' h7.F,Ih h7.F,h7.F.2,mg_of X G h7.a⟩;have Gy:Γ7 l.prog w K mg base:=⟨_,_,XV B Cl F_init b_init QML' QMF' h8.F Gp Gq,Ih h8.F,h8.F.2,mg_of X G h8.a⟩;have G1:Γ8 l.prog w K mg base:=⟨_,_,YG B Cl F_init b_init QML' QMF' h9.F Gp Gr,Ih h9.F,h9.F.2,mg_of X G h9.a⟩;have Gs:Γ9 l.prog w K mg base cNoText:=⟨_,_,ZF B Cl F_init b_init QML' QMF' h10.F,Ih h10.F,h10.F.2,mg_of X G h10.a⟩;have Gx:Γ10 l.prog w K mg base cNoText:=⟨_,_,Zi B Cl F_init b_init QML' QMF' h11.F Gs,Ih h11.F,h11.F.2,mg_of X G h11.a⟩;have G0:Γ11 l.prog w K mg base:=⟨_,_,YS B Cl F_init b_init QML' QMF' h12.F,Ih h12.F,h12.F.2,mg_of X G h12.a⟩;have Gu:Γ12 l.prog w K mg base cNoText:=⟨_,_,YE B Cl F_init b_init QML' QMF' h13.F Gs,JQ h13.F,h13.F.2,mg_of X G h13.a⟩;have Gv:Γ13 l.prog w K mg base cNoText:=⟨_,_,Zm B Cl F_init b_init QML' QMF' h14.F Gs Gu,Ih h14.F,h14.F.2,mg_of X G h14.a⟩;have Gw:Γ14 l.prog w K mg base cNoText:=⟨_,_,Xv B Cl F_init b_init QML' QMF' h15.F Gv,Ih h15.F,h15.F.2,mg_of X G h15.a⟩;have Gz:Γ15 l.prog w K mg base cNoText:=⟨_,_,ZD B Cl F_init b_init QML' QMF' h16.F Gw,Ih h16.F,h16.F.2,mg_of X G h16.a⟩;have G4:Γ16 l.prog w K mg base cNoText:=⟨_,_,ZI B Cl F_init b_init QML' QMF' h17.F Gv,Ih h17.F,h17.F.2,mg_of X G h17.a⟩;have GL:Γ17 l.prog w K mg base cNoText:=⟨_,_,Zn B Cl F_init b_init QML' QMF' h18.F Gx Gs Gy Gz G0,Ih h18.F,h18.F.2,mg_of X G h18.a⟩;have GM:Γ18 l.prog w K mg base cNoText:=⟨_,_,Zl B Cl F_init b_init QML' QMF' h19.F Gx Gs G1 G4 G0,Ih h19.F,h19.F.2,mg_of X G h19.a⟩;have GN:Γ19 l.prog w K mg base:=⟨_,_,XW B Cl F_init b_init QML' QMF' h20.F,Ih h20.F,h20.F.2,mg_of X G h20.a⟩;have G5:Γ20 l.prog w K mg base:=⟨_,_,YJ B Cl F_init b_init QML' QMF' h21.F,JQ h21.F,h21.F.2,mg_of X G h21.a⟩;have G6:Γ21 l.prog w K mg base:=⟨_,_,Zk B Cl F_init b_init QML' QMF' h22.F G5,Ih h22.F,h22.F.2,mg_of X G h22.a⟩;have G7:Γ22 l.prog w K mg base:=⟨_,_,YK B Cl F_init b_init QML' QMF' h23.F,Ih h23.F,h23.F.2,mg_of X G h23.a⟩;have GB:Γ23 l.prog w K mg base:=⟨_,_,YQ B Cl F_init b_init QML' QMF' h24.F G5 G6 G7,Ih h24.F,h24.F.2,mg_of X G h24.a⟩;have GD:Γ24 l.prog w K mg base:=⟨_,_,Zw B Cl F_init b_init QML' QMF' h25.F,Ih h25.F,h25.F.2,mg_of X G h25.a⟩;have G8:Γ25 l.prog w K mg base:=⟨_,_,Zt B Cl F_init b_init QML' QMF' h26.F G5,Ih h26.F,h26.F.2,mg_of X G h26.a⟩;have GA:Γ26 l.prog w K mg base:=⟨_,_,Zj B Cl F_init b_init QML' QMF' h27.F G8 G5,JQ h27.F,h27.F.2,mg_of X G h27.a⟩;have G9:Γ27 l.prog w K mg base:=⟨_,_,YN B Cl F_init b_init QML' QMF' h28.F  (AC X G h28.a),JQ h28.F,h28.F.2,mg_of X G h28.a⟩;have GQ:Γ28 l.prog w K mg base:=⟨_,_,YL B Cl F_init b_init QML' QMF' h29.F GA GB G6,ZU h29.F,h29.F.2,mg_of X G h29.a⟩;have GO:Γ29 l.prog w K mg base:=⟨_,_,Z0 B Cl F_init b_init QML' QMF' h30.F,Ih h30.F,h30.F.2,mg_of X G h30.a⟩;have GC:Γ30 l.prog w K mg base:=⟨_,_,Zu B Cl F_init b_init QML' QMF' h31.F G5 G6 (AC X G h31.a),JQ h31.F,h31.F.2,mg_of X G h31.a⟩;have GE:Γ31 l.prog w K mg base:=⟨_,_,ZC B Cl F_init b_init QML' QMF' h32.F,Ih h32.F,h32.F.2,mg_of X G h32.a⟩;have GF:Γ32 l.prog w K mg base:=⟨_,_,Zy B Cl F_init b_init QML' QMF' h33.F GD,JQ h33.F,h33.F.2,mg_of X G h33.a⟩;have GI:Γ33 l.prog w K mg base:=⟨_,_,Zx B Cl F_init b_init QML' QMF' h34.F GE GF GD,JQ h34.F,h34.F.2,mg_of X G h34.a⟩;have GG:Γ34 l.prog w K mg base:=⟨_,_,Zv B Cl F_init b_init QML' QMF' h35.F,Ih h35.F,h35.F.2,mg_of X G h35.a⟩;have GH:Γ35 l.prog w K mg base:=⟨_,_,Zz B Cl F_init b_init QML' QMF' h36.F GG,JQ h36.F,h36.F.2,mg_of X G h36.a⟩;have GS:Γ36 l.prog w K mg base:=⟨_,_,YM B Cl F_init b_init QML' QMF' h37.F GH GI,JQ h37.F,h37.F.2,mg_of X G h37.a⟩;have GJ:Γ37 l.prog w K mg base:=⟨_,_,YO B Cl F_init b_init QML' QMF' h38.F G5,Ih h38.F,h38.F.2,mg_of X G h38.a⟩;have GK:Γ38 l.prog w K mg base:=⟨_,_,Z9 B Cl F_init b_init QML' QMF' h39.F G5,JQ h39.F,h39.F.2,mg_of X G h39.a⟩;have GR:Γ39 l.prog w K mg base:=⟨_,_,YI B Cl F_init b_init QML' QMF' h40.F G5 GJ GK,JQ h40.F,h40.F.2,mg_of X G h40.a⟩;have GT:Γ40 l.prog w K mg base:=⟨_,_,YR B Cl F_init b_init QML' QMF' h41.F GL GM,JQ h41.F,h41.F.2,mg_of X G h41.a⟩;exact V5 B Cl F_init b_init QML' QMF' (fun_mk (st:=Le) l' c' k') GN G5 GO GQ GR GC GS G9 GT
theorem walk{l:E_}{q:Bk}{loose:List Str}{XP:(Str→Option Value)→Heap→Prop}{YP:World→Heap→Prop}{d:DefRec}{K:Params→Af}(hn:l.most=some 63)(hdf:d.params.defaults=[])
 (hY:∀(w:World)(h:Heap),YP w h→(K w.params).In h)
 (F:∀(w:World)(mg:Str→Option Value)(fa:Addr)(h:Heap),(K w.params).In h→h.Ns Ak mg→mg d.name=some (.ref fa)→
  ∃fd:Bf,(∀(s:Shared)(u:Value),BindsTo s fd ⟨[u],[]⟩ [("script",u)])∧∀base:Heap,(K w.params).In base→base.Ns Ak mg→FnOk l.prog w (K w.params) mg base HH 12 fa fd ["script"] (Nc (K w.params))):
 PySem.W.WalkO q loose XP YP l.row.toRowW d [] (λf vs=>PySem.call f vs):=
 L2.walk_of (n:=63) (k:=12) (x:="script") (CX:=λ_=>HH) (sp:=λw=>Nc (K w.params)) hn (by decide) hdf ⟨rfl,by decide,by decide,rfl⟩ hY F (λ_ _ a ns hl _ hS=>⟨a,ns,rfl,hS,hl,λ_=>rfl⟩) λ_ _ _ _ _ z=>z
end K79
namespace PySem.W.Fast
theorem tw16258422971685518848:0=0:=rfl
theorem tw231787149167998947:0=0:=rfl
theorem tw5351864671013482372:0=0:=rfl
theorem tw12262447113027614596:0=0:=rfl
theorem tw10991526512817966565:0=0:=rfl
theorem tw2629198767096542473:0=0:=rfl
theorem tw9863292348917597737:0=0:=rfl
theorem tw420128068332130858:0=0:=rfl
theorem tw5671628682722267467:0=0:=rfl
theorem tw12244627873991972940:0=0:=rfl
theorem tw17285090218419237164:0=0:=rfl
theorem tw5068327860065513583:0=0:=rfl
theorem tw12694685470961573584:0=0:=rfl
theorem tw6611633257627036177:0=0:=rfl
theorem tw16852395320897153235:0=0:=rfl
theorem tw7488298712978913620:0=0:=rfl
theorem tw197882128242496021:0=0:=rfl
theorem tw9497525994587267990:0=0:=rfl
theorem tw14082451911045180217:0=0:=rfl
theorem tw10286083253330038426:0=0:=rfl
theorem tw2022499407124616603:0=0:=rfl
theorem tw9015435646446385819:0=0:=rfl
theorem tw12420535691476288060:0=0:=rfl
theorem tw6686601879257080029:0=0:=rfl
theorem tw14875471015926381502:0=0:=rfl
theorem tw7319602390299581471:0=0:=rfl
theorem tw1231553675660408851:0=0:=rfl
theorem tw15075245154635240448:0=0:=rfl
theorem tw8317743380247808032:0=0:=rfl
theorem tw1533616333720030272:0=0:=rfl
theorem tw6575732869097850048:0=0:=rfl
theorem tw7429509829743176992:0=0:=rfl
theorem tw15413769488756039104:0=0:=rfl
theorem tw953516462685560416:0=0:=rfl
theorem tw16426851523223790176:0=0:=rfl
theorem tw14339952925418532512:0=0:=rfl
theorem tw4182183615288946336:0=0:=rfl
theorem tw14578662787365798624:0=0:=rfl
theorem tw11246755211390987008:0=0:=rfl
theorem tw5101566231545603840:0=0:=rfl
theorem tw4687370224895027008:0=0:=rfl
theorem tw6531355905886110560:0=0:=rfl
theorem tw8968250657418266464:0=0:=rfl
theorem tw17496056348914543456:0=0:=rfl
theorem tw15782559380814034784:0=0:=rfl
theorem tw8664432260761531328:0=0:=rfl
theorem tw17199188626131831744:0=0:=rfl
theorem tw421002145990340544:0=0:=rfl
theorem tw11652657221829065696:0=0:=rfl
theorem tw2283985692289473729:0=0:=rfl
theorem tw9862242176978450689:0=0:=rfl
theorem tw5530372384975851809:0=0:=rfl
theorem tw1281641185193881921:0=0:=rfl
theorem tw12060819561824714145:0=0:=rfl
theorem tw11603271686251669025:0=0:=rfl
theorem tw6039169433132130945:0=0:=rfl
theorem tw9395439628524479137:0=0:=rfl
theorem tw10857854894515603233:0=0:=rfl
theorem tw3308253076103654209:0=0:=rfl
theorem tw8343765698087452481:0=0:=rfl
theorem tw7581487346874672993:0=0:=rfl
theorem tw16241508690544874465:0=0:=rfl
theorem tw17367227208336903202:0=0:=rfl
theorem tw11583390956993014850:0=0:=rfl
theorem tw6183190183394083906:0=0:=rfl
theorem tw17430174131394868418:0=0:=rfl
theorem tw4113464826256438466:0=0:=rfl
theorem tw11911315465198840098:0=0:=rfl
theorem tw13936593427150222626:0=0:=rfl
theorem tw9147913820589389090:0=0:=rfl
theorem tw660539019187045954:0=0:=rfl
theorem tw16760243583087966786:0=0:=rfl
theorem tw6230894945532113474:0=0:=rfl
theorem tw6191204643191646850:0=0:=rfl
theorem tw9591203504617388738:0=0:=rfl
theorem tw16091534285909114626:0=0:=rfl
theorem tw4278367128421348130:0=0:=rfl
theorem tw5180287792783316834:0=0:=rfl
theorem tw8345338031350683554:0=0:=rfl
theorem tw17610204081149504450:0=0:=rfl
theorem tw12350928831162257346:0=0:=rfl
theorem tw1967148387599893539:0=0:=rfl
theorem tw11411207487851055139:0=0:=rfl
theorem tw7334816175195321443:0=0:=rfl
theorem tw3045640815772839043:0=0:=rfl
theorem tw11362489613104941347:0=0:=rfl
theorem tw12377314739608422691:0=0:=rfl
theorem tw6381478646220295587:0=0:=rfl
theorem tw11378535217135648227:0=0:=rfl
theorem tw14607589554786953699:0=0:=rfl
theorem tw2246702093267115523:0=0:=rfl
theorem tw2793196919240643107:0=0:=rfl
theorem tw3192257609112538659:0=0:=rfl
theorem tw16825817944983145027:0=0:=rfl
theorem tw14790814101308376675:0=0:=rfl
theorem tw15653865818625448579:0=0:=rfl
theorem tw4202835322336028323:0=0:=rfl
theorem tw6270676431174566595:0=0:=rfl
theorem tw15990023032830348099:0=0:=rfl
theorem tw12988742488021461955:0=0:=rfl
theorem tw16408253043278089220:0=0:=rfl
theorem tw4000726478292814916:0=0:=rfl
theorem tw17444142466388258916:0=0:=rfl
theorem tw5482831981956158564:0=0:=rfl
theorem tw8549452783147376836:0=0:=rfl
theorem tw4320956023628832004:0=0:=rfl
theorem tw5890819291473776932:0=0:=rfl
theorem tw18283218151879774564:0=0:=rfl
theorem tw3293177159679536548:0=0:=rfl
theorem tw2266953747362104772:0=0:=rfl
theorem tw17948660886880871876:0=0:=rfl
theorem tw12391571706826882692:0=0:=rfl
theorem tw4336550671219684100:0=0:=rfl
theorem tw18012030048350600964:0=0:=rfl
theorem tw1436388687082734372:0=0:=rfl
theorem tw6869292776785334116:0=0:=rfl
theorem tw7034800924452052836:0=0:=rfl
theorem tw15025450023819175876:0=0:=rfl
theorem tw15123205496865746884:0=0:=rfl
theorem tw11839026556105026532:0=0:=rfl
theorem tw3494709425258235941:0=0:=rfl
theorem tw9864761951751348261:0=0:=rfl
theorem tw330710878961531973:0=0:=rfl
theorem tw14948757312391120005:0=0:=rfl
theorem tw6738440401856922757:0=0:=rfl
theorem tw1763893692219276421:0=0:=rfl
theorem tw15226026834848764037:0=0:=rfl
theorem tw14545807361269104805:0=0:=rfl
theorem tw230865892369143973:0=0:=rfl
theorem tw5593496248094499013:0=0:=rfl
theorem tw17531539667165243589:0=0:=rfl
theorem tw1891043145952686309:0=0:=rfl
theorem tw14890688858650361093:0=0:=rfl
theorem tw13280572638226292069:0=0:=rfl
theorem tw1847210504722231653:0=0:=rfl
theorem tw1948621943849472357:0=0:=rfl
theorem tw7906962283740535173:0=0:=rfl
theorem tw14263745993942048165:0=0:=rfl
theorem tw11366783709595618757:0=0:=rfl
theorem tw114237798933786053:0=0:=rfl
theorem tw1220327045063964133:0=0:=rfl
theorem tw12428418711628788261:0=0:=rfl
theorem tw437653103184082501:0=0:=rfl
theorem tw18338606142908667525:0=0:=rfl
theorem tw17797011385585813221:0=0:=rfl
theorem tw10807279649993225989:0=0:=rfl
theorem tw8157990896010137381:0=0:=rfl
theorem tw1917529468843428741:0=0:=rfl
theorem tw14092487578203591589:0=0:=rfl
theorem tw1902007283408868261:0=0:=rfl
theorem tw13425904847701671845:0=0:=rfl
theorem tw13082006426055160870:0=0:=rfl
theorem tw7366625242488971366:0=0:=rfl
theorem tw11663355655491516550:0=0:=rfl
theorem tw9276191877364753638:0=0:=rfl
theorem tw6389808432187278598:0=0:=rfl
theorem tw8772055659207299334:0=0:=rfl
theorem tw4020810471362514246:0=0:=rfl
theorem tw7866310995460030790:0=0:=rfl
theorem tw4595498967094571494:0=0:=rfl
theorem tw16118344263285021190:0=0:=rfl
theorem tw13309525848918541862:0=0:=rfl
theorem tw13343592765337032230:0=0:=rfl
theorem tw17378754820516917830:0=0:=rfl
theorem tw8109262137875799622:0=0:=rfl
theorem tw10482124990199249606:0=0:=rfl
theorem tw15710485337336803238:0=0:=rfl
theorem tw8977870686221336550:0=0:=rfl
theorem tw7831107818072242215:0=0:=rfl
theorem tw12140711490023921799:0=0:=rfl
theorem tw4761595676685211815:0=0:=rfl
theorem tw10884579191524182215:0=0:=rfl
theorem tw14925854270585205959:0=0:=rfl
theorem tw18079885054560475367:0=0:=rfl
theorem tw11221407850653935975:0=0:=rfl
theorem tw12992330641968495047:0=0:=rfl
theorem tw368497486669641191:0=0:=rfl
theorem tw4885112957095013959:0=0:=rfl
theorem tw3683242225020121735:0=0:=rfl
theorem tw6589799863516329639:0=0:=rfl
theorem tw4708620702279776999:0=0:=rfl
theorem tw13789524264410523399:0=0:=rfl
theorem tw14871020552323237799:0=0:=rfl
theorem tw14537844321684605992:0=0:=rfl
theorem tw12619066017783761992:0=0:=rfl
theorem tw16264903181264543848:0=0:=rfl
theorem tw15961529759314205832:0=0:=rfl
theorem tw18270564299813904680:0=0:=rfl
theorem tw2845065086265374056:0=0:=rfl
theorem tw11895447999947452968:0=0:=rfl
theorem tw3787913882100419144:0=0:=rfl
theorem tw14153494516888831592:0=0:=rfl
theorem tw4900623411530818312:0=0:=rfl
theorem tw3629457887829617416:0=0:=rfl
theorem tw7145256194039962408:0=0:=rfl
theorem tw2284266806704076616:0=0:=rfl
theorem tw11809597199900920680:0=0:=rfl
theorem tw18212345913806672808:0=0:=rfl
theorem tw636759532129598505:0=0:=rfl
theorem tw15104393357446730825:0=0:=rfl
theorem tw744610056301694121:0=0:=rfl
theorem tw10951400946961135081:0=0:=rfl
theorem tw5081103951683654153:0=0:=rfl
theorem tw4533730155091168809:0=0:=rfl
theorem tw12451735061940769321:0=0:=rfl
theorem tw5073823259893953193:0=0:=rfl
theorem tw13355592246428282665:0=0:=rfl
theorem tw16798252273874733929:0=0:=rfl
theorem tw13555451915242686409:0=0:=rfl
theorem tw12181120559190650954:0=0:=rfl
theorem tw12779172131969065098:0=0:=rfl
theorem tw13792223470136937642:0=0:=rfl
theorem tw16716238691454224682:0=0:=rfl
theorem tw13715491919234672970:0=0:=rfl
theorem tw15391150270245753162:0=0:=rfl
theorem tw10264772404240819562:0=0:=rfl
theorem tw15644021235758861706:0=0:=rfl
theorem tw10983551620251515306:0=0:=rfl
theorem tw15501146361537328618:0=0:=rfl
theorem tw13933419788182831626:0=0:=rfl
theorem tw15267186578358981162:0=0:=rfl
theorem tw1490091670704180778:0=0:=rfl
theorem tw16646264860630337258:0=0:=rfl
theorem tw4849164230217920234:0=0:=rfl
theorem tw14282586929773640426:0=0:=rfl
theorem tw13938144017138665322:0=0:=rfl
theorem tw2696321677210599306:0=0:=rfl
theorem tw11458770304339483530:0=0:=rfl
theorem tw11660717365819628490:0=0:=rfl
theorem tw13250414018380515339:0=0:=rfl
theorem tw2380596043756297227:0=0:=rfl
theorem tw478019788695856171:0=0:=rfl
theorem tw16954107172571329835:0=0:=rfl
theorem tw4276075045075286347:0=0:=rfl
theorem tw550353645002537323:0=0:=rfl
theorem tw17962346568123906443:0=0:=rfl
theorem tw13251473530283198859:0=0:=rfl
theorem tw2674214482984767947:0=0:=rfl
theorem tw13996415293798966891:0=0:=rfl
theorem tw4178282471497492235:0=0:=rfl
theorem tw7628347873224533803:0=0:=rfl
theorem tw14805644627155228491:0=0:=rfl
theorem tw12421602049963497291:0=0:=rfl
theorem tw10538701338848523115:0=0:=rfl
theorem tw14288564474349064043:0=0:=rfl
theorem tw4437658290515010475:0=0:=rfl
theorem tw7924158722565249164:0=0:=rfl
theorem tw10008334465181631660:0=0:=rfl
theorem tw5762971813508052172:0=0:=rfl
theorem tw7515422715612924204:0=0:=rfl
theorem tw15555426340059311436:0=0:=rfl
theorem tw11492703315247391084:0=0:=rfl
theorem tw16309055288099860940:0=0:=rfl
theorem tw8954722411546527244:0=0:=rfl
theorem tw4926832175163897388:0=0:=rfl
theorem tw12655726477696560812:0=0:=rfl
theorem tw2200044181232877260:0=0:=rfl
theorem tw4341648471373158124:0=0:=rfl
theorem tw5610190756826266380:0=0:=rfl
theorem tw8957824274441538348:0=0:=rfl
theorem tw12982646693522403212:0=0:=rfl
theorem tw18424060760088762284:0=0:=rfl
theorem tw17978184272983436236:0=0:=rfl
theorem tw12813752976832154669:0=0:=rfl
theorem tw11775913439502164045:0=0:=rfl
theorem tw13438030262693549165:0=0:=rfl
theorem tw14360175422389307501:0=0:=rfl
theorem tw10346035166680475821:0=0:=rfl
theorem tw10881456579599904973:0=0:=rfl
theorem tw3783372584568669581:0=0:=rfl
theorem tw8825151202601099693:0=0:=rfl
theorem tw17624405172090366445:0=0:=rfl
theorem tw13003963311723926029:0=0:=rfl
theorem tw10872042945461422637:0=0:=rfl
theorem tw16392404846717429293:0=0:=rfl
theorem tw16512498954386390829:0=0:=rfl
theorem tw4853579290886997837:0=0:=rfl
theorem tw15334997120109658957:0=0:=rfl
theorem tw8571994412959911789:0=0:=rfl
theorem tw13178584456753186701:0=0:=rfl
theorem tw7256996998349711277:0=0:=rfl
theorem tw8781188212093279213:0=0:=rfl
theorem tw4834623891021512750:0=0:=rfl
theorem tw11840911748214254670:0=0:=rfl
theorem tw12564511815958612078:0=0:=rfl
theorem tw112809847640507630:0=0:=rfl
theorem tw4910158510855261422:0=0:=rfl
theorem tw2095857077988622:0=0:=rfl
theorem tw12095592144505297262:0=0:=rfl
theorem tw7667048297289135566:0=0:=rfl
theorem tw2025953772382653934:0=0:=rfl
theorem tw9600087084311699022:0=0:=rfl
theorem tw11673332659554045582:0=0:=rfl
theorem tw11646047763528706702:0=0:=rfl
theorem tw16854962706658364110:0=0:=rfl
theorem tw17278352733859492622:0=0:=rfl
theorem tw261953856663650158:0=0:=rfl
theorem tw13038370447488827278:0=0:=rfl
theorem tw17771871158035259342:0=0:=rfl
theorem tw16572912984671767534:0=0:=rfl
theorem tw10361598841924402191:0=0:=rfl
theorem tw14431340819820436559:0=0:=rfl
theorem tw12210763030448741551:0=0:=rfl
theorem tw13668144737851023535:0=0:=rfl
theorem tw11630865828617503983:0=0:=rfl
theorem tw15934268280649011663:0=0:=rfl
theorem tw9172776196758358639:0=0:=rfl
theorem tw7556908572064133903:0=0:=rfl
theorem tw6577657480774107983:0=0:=rfl
theorem tw10612568245261491055:0=0:=rfl
theorem tw3082765484558473264:0=0:=rfl
theorem tw13136073532182027344:0=0:=rfl
theorem tw8940329763830644848:0=0:=rfl
theorem tw2563971450789055664:0=0:=rfl
theorem tw8772820576497527984:0=0:=rfl
theorem tw5077410076136320208:0=0:=rfl
theorem tw12570878134858666224:0=0:=rfl
theorem tw8058908770669968624:0=0:=rfl
theorem tw2599256537133422864:0=0:=rfl
theorem tw10634647687114761616:0=0:=rfl
theorem tw12199611490597321104:0=0:=rfl
theorem tw10758109333132184080:0=0:=rfl
theorem tw2743643885174259216:0=0:=rfl
theorem tw10269262812269000240:0=0:=rfl
theorem tw11416420288796989040:0=0:=rfl
theorem tw8172070695486226032:0=0:=rfl
theorem tw6538066662388787952:0=0:=rfl
theorem tw5081253417692616464:0=0:=rfl
theorem tw15132568383040927536:0=0:=rfl
theorem tw11188862913411604304:0=0:=rfl
theorem tw2161913767481115504:0=0:=rfl
theorem tw9119921189053810576:0=0:=rfl
theorem tw17466956252532647824:0=0:=rfl
theorem tw16478029312969429968:0=0:=rfl
theorem tw4986674058488583185:0=0:=rfl
theorem tw9923398103057230865:0=0:=rfl
theorem tw3084796464821626929:0=0:=rfl
theorem tw14884332781491779697:0=0:=rfl
theorem tw6658611774868311281:0=0:=rfl
theorem tw7230451323050658097:0=0:=rfl
theorem tw6831265728816097617:0=0:=rfl
theorem tw17710384170450848081:0=0:=rfl
theorem tw16509223250389629585:0=0:=rfl
theorem tw13547541226431302353:0=0:=rfl
theorem tw7035178898554912465:0=0:=rfl
theorem tw2770618197251175153:0=0:=rfl
theorem tw14251169903009354641:0=0:=rfl
theorem tw17648074127103200145:0=0:=rfl
theorem tw106377485446526929:0=0:=rfl
theorem tw12533192549082138866:0=0:=rfl
theorem tw6043527251002901842:0=0:=rfl
theorem tw10999314749054326162:0=0:=rfl
theorem tw1473998231484432818:0=0:=rfl
theorem tw13782691925791170034:0=0:=rfl
theorem tw10110289351816145394:0=0:=rfl
theorem tw6148334221472713266:0=0:=rfl
theorem tw8224770599606967986:0=0:=rfl
theorem tw5598562340143926962:0=0:=rfl
theorem tw12419314217147334354:0=0:=rfl
theorem tw5503670434365557554:0=0:=rfl
theorem tw11157294825116558258:0=0:=rfl
theorem tw448216733212603346:0=0:=rfl
theorem tw2948090005615342578:0=0:=rfl
theorem tw732621624962748435:0=0:=rfl
theorem tw3127380994968413267:0=0:=rfl
theorem tw5397543885170651219:0=0:=rfl
theorem tw7327223020614380691:0=0:=rfl
theorem tw2851935205593110707:0=0:=rfl
theorem tw16814818961939584211:0=0:=rfl
theorem tw3059233088674799955:0=0:=rfl
theorem tw15889998598132112723:0=0:=rfl
theorem tw2596856399753550227:0=0:=rfl
theorem tw4941256900459963859:0=0:=rfl
theorem tw15176681788325740051:0=0:=rfl
theorem tw407771828293840403:0=0:=rfl
theorem tw7800875647391434291:0=0:=rfl
theorem tw18370509748075771475:0=0:=rfl
theorem tw16454334961767913043:0=0:=rfl
theorem tw11094338825364357779:0=0:=rfl
theorem tw8767494550260159251:0=0:=rfl
theorem tw14036524214084052787:0=0:=rfl
theorem tw11328559408763409203:0=0:=rfl
theorem tw432483124089176947:0=0:=rfl
theorem tw6125271980561479571:0=0:=rfl
theorem tw8008919376545837971:0=0:=rfl
theorem tw16051088070274825107:0=0:=rfl
theorem tw6195939490204600243:0=0:=rfl
theorem tw4651844806647961555:0=0:=rfl
theorem tw17355568400651861012:0=0:=rfl
theorem tw8981216587667677268:0=0:=rfl
theorem tw6064053848581522548:0=0:=rfl
theorem tw4878865852850346260:0=0:=rfl
theorem tw9200988069382694164:0=0:=rfl
theorem tw16354467885711037748:0=0:=rfl
theorem tw2912248138186925460:0=0:=rfl
theorem tw5551397638356189620:0=0:=rfl
theorem tw5924097954430718420:0=0:=rfl
theorem tw7104205051952323028:0=0:=rfl
theorem tw9260555013625772532:0=0:=rfl
theorem tw4321470056581678612:0=0:=rfl
theorem tw10410029282900426324:0=0:=rfl
theorem tw8303447191293214324:0=0:=rfl
theorem tw16411045420386166420:0=0:=rfl
theorem tw9940467484884225684:0=0:=rfl
theorem tw17435587566588107508:0=0:=rfl
theorem tw8213627336279090004:0=0:=rfl
theorem tw981416912418463604:0=0:=rfl
theorem tw12377159355623742388:0=0:=rfl
theorem tw15873158687022321685:0=0:=rfl
theorem tw4248911036393681973:0=0:=rfl
theorem tw7887277135825696885:0=0:=rfl
theorem tw14400353330158094453:0=0:=rfl
theorem tw3930970586939484373:0=0:=rfl
theorem tw12895441481513982229:0=0:=rfl
theorem tw8207582652870846741:0=0:=rfl
theorem tw3831084125714684277:0=0:=rfl
theorem tw5639808573681955349:0=0:=rfl
theorem tw15898669835395629653:0=0:=rfl
theorem tw13410505270740033205:0=0:=rfl
theorem tw2842571588820104981:0=0:=rfl
theorem tw18375367696835472245:0=0:=rfl
theorem tw4362603370375581557:0=0:=rfl
theorem tw18377442493450751861:0=0:=rfl
theorem tw3968319620256008117:0=0:=rfl
theorem tw15708870920185931733:0=0:=rfl
theorem tw6856239462592016341:0=0:=rfl
theorem tw17667257231770549270:0=0:=rfl
theorem tw1875075636128218166:0=0:=rfl
theorem tw640697271439813814:0=0:=rfl
theorem tw13623617688356436310:0=0:=rfl
theorem tw4994394581777449398:0=0:=rfl
theorem tw17506909957234844278:0=0:=rfl
theorem tw4943811882940761782:0=0:=rfl
theorem tw6434989376029154006:0=0:=rfl
theorem tw16884381958319734486:0=0:=rfl
theorem tw15566804507685260150:0=0:=rfl
theorem tw16985197116348316534:0=0:=rfl
theorem tw13495878404644738038:0=0:=rfl
theorem tw2437919271248029943:0=0:=rfl
theorem tw18114323111967782231:0=0:=rfl
theorem tw9388144496812147063:0=0:=rfl
theorem tw9771077074363542231:0=0:=rfl
theorem tw13725130569875460887:0=0:=rfl
theorem tw10880081501620407127:0=0:=rfl
theorem tw9118482758964052855:0=0:=rfl
theorem tw7952700288670679031:0=0:=rfl
theorem tw2627423594751304695:0=0:=rfl
theorem tw11900039429127778295:0=0:=rfl
theorem tw8035677259477094488:0=0:=rfl
theorem tw4520562603887141976:0=0:=rfl
theorem tw12467740990721404024:0=0:=rfl
theorem tw8756161133712650360:0=0:=rfl
theorem tw14592940349863377048:0=0:=rfl
theorem tw1947681101955940568:0=0:=rfl
theorem tw5024615812800405720:0=0:=rfl
theorem tw3846493470349142328:0=0:=rfl
theorem tw12467018949432640856:0=0:=rfl
theorem tw16920279397239940696:0=0:=rfl
theorem tw30704116376345176:0=0:=rfl
theorem tw11560161454173448856:0=0:=rfl
theorem tw14597624039587216088:0=0:=rfl
theorem tw16697387509838938840:0=0:=rfl
theorem tw1929815950979923736:0=0:=rfl
theorem tw17305566443869108056:0=0:=rfl
theorem tw15665470912832828408:0=0:=rfl
theorem tw9095335304950890585:0=0:=rfl
theorem tw6944407534143307993:0=0:=rfl
theorem tw11075025806576335129:0=0:=rfl
theorem tw16289326095521991993:0=0:=rfl
theorem tw2754354433337552185:0=0:=rfl
theorem tw85677148198335833:0=0:=rfl
theorem tw466621120768807353:0=0:=rfl
theorem tw2517803580966650297:0=0:=rfl
theorem tw7920476522567764473:0=0:=rfl
theorem tw5749456773737029113:0=0:=rfl
theorem tw2573706419260437081:0=0:=rfl
theorem tw5039273297369828985:0=0:=rfl
theorem tw6806449603735934585:0=0:=rfl
theorem tw2812511819867682457:0=0:=rfl
theorem tw2794393021332817593:0=0:=rfl
theorem tw15176090533347970841:0=0:=rfl
theorem tw1962081254812828441:0=0:=rfl
theorem tw4942044289126859577:0=0:=rfl
theorem tw6628635581903125305:0=0:=rfl
theorem tw1663455082431442745:0=0:=rfl
theorem tw4072213467831862265:0=0:=rfl
theorem tw10764372713802791034:0=0:=rfl
theorem tw1603546997094833402:0=0:=rfl
theorem tw4302138493582886362:0=0:=rfl
theorem tw13725885965860126202:0=0:=rfl
theorem tw4054651283102736026:0=0:=rfl
theorem tw1976382206450904762:0=0:=rfl
theorem tw9397165787765287642:0=0:=rfl
theorem tw14226207971822291706:0=0:=rfl
theorem tw3105679350922748794:0=0:=rfl
theorem tw9822783481604339610:0=0:=rfl
theorem tw12630055588464048090:0=0:=rfl
theorem tw5804161492652813274:0=0:=rfl
theorem tw15318868222969524347:0=0:=rfl
theorem tw8954620926370895995:0=0:=rfl
theorem tw492330028193288379:0=0:=rfl
theorem tw17240743416206358811:0=0:=rfl
theorem tw11240969056478802427:0=0:=rfl
theorem tw2667809413390149147:0=0:=rfl
theorem tw12845838474425768571:0=0:=rfl
theorem tw13952518180691288699:0=0:=rfl
theorem tw14357092527982806811:0=0:=rfl
theorem tw16882651402582953819:0=0:=rfl
theorem tw11888973000471608219:0=0:=rfl
theorem tw8602409542848136091:0=0:=rfl
theorem tw5547281994591892443:0=0:=rfl
theorem tw16339234881172445179:0=0:=rfl
theorem tw2891379474641737820:0=0:=rfl
theorem tw4143382799590695004:0=0:=rfl
theorem tw10897966383056542844:0=0:=rfl
theorem tw15851476380441433308:0=0:=rfl
theorem tw13763694316891467004:0=0:=rfl
theorem tw8058956345398757628:0=0:=rfl
theorem tw16612756251959619964:0=0:=rfl
theorem tw11939532159634833852:0=0:=rfl
theorem tw3396341116109407708:0=0:=rfl
theorem tw17914460036685489692:0=0:=rfl
theorem tw17914123667543527004:0=0:=rfl
theorem tw11035459657528321628:0=0:=rfl
theorem tw482835394715894364:0=0:=rfl
theorem tw4202564232756817500:0=0:=rfl
theorem tw9691856511689619132:0=0:=rfl
theorem tw13749926098526709436:0=0:=rfl
theorem tw4016335860265525980:0=0:=rfl
theorem tw12902247427534515004:0=0:=rfl
theorem tw2229575312890529917:0=0:=rfl
theorem tw15550541975046884509:0=0:=rfl
theorem tw6849806070165120221:0=0:=rfl
theorem tw14275165715282369789:0=0:=rfl
theorem tw13933891801851395357:0=0:=rfl
theorem tw5156584678538221885:0=0:=rfl
theorem tw5158364236984268125:0=0:=rfl
theorem tw16306714298064969085:0=0:=rfl
theorem tw11210386014209660285:0=0:=rfl
theorem tw5025341899647189437:0=0:=rfl
theorem tw333005685783295517:0=0:=rfl
theorem tw15598093125303033405:0=0:=rfl
theorem tw16706357794456559357:0=0:=rfl
theorem tw415816658359951101:0=0:=rfl
theorem tw13887521165399023389:0=0:=rfl
theorem tw11864925489095912285:0=0:=rfl
theorem tw4938441032194288477:0=0:=rfl
theorem tw16653253332243069949:0=0:=rfl
theorem tw178042341679678526:0=0:=rfl
theorem tw17134604933653690462:0=0:=rfl
theorem tw4737131664352732318:0=0:=rfl
theorem tw16786038060163737758:0=0:=rfl
theorem tw5199856140871562398:0=0:=rfl
theorem tw3860996943622019390:0=0:=rfl
theorem tw15352956853406389630:0=0:=rfl
theorem tw17386924370109938078:0=0:=rfl
theorem tw9790389074110197214:0=0:=rfl
theorem tw2512082738940325342:0=0:=rfl
theorem tw10256584656130296318:0=0:=rfl
theorem tw5971403275720403582:0=0:=rfl
theorem tw12378508721186031422:0=0:=rfl
theorem tw13067206990025621374:0=0:=rfl
theorem tw8707050960361787262:0=0:=rfl
theorem tw16723178766291512286:0=0:=rfl
theorem tw9017904499820519422:0=0:=rfl
theorem tw18436292007929950239:0=0:=rfl
theorem tw7972360347516382303:0=0:=rfl
theorem tw4372183857064377663:0=0:=rfl
theorem tw8694553450255607423:0=0:=rfl
theorem tw17658497014329208511:0=0:=rfl
theorem tw3645798783209520831:0=0:=rfl
theorem tw10694817641100970719:0=0:=rfl
theorem tw16355841710086763295:0=0:=rfl
theorem tw13122218240206638911:0=0:=rfl
theorem tw6220114173785022271:0=0:=rfl
theorem tw2950891365279408031:0=0:=rfl
theorem tw11254672329224927199:0=0:=rfl
theorem tw4111806324261338111:0=0:=rfl
end PySem.W.Fast
open PySem PySem.W PyProof.Rows
set_option hygiene false in
local macro_rules | `(tactic| walk_at "kF")=> `(tactic| (refine' K79.KF.mk ?a (L2.fun_mk ?l ?c ?k);(case a=>k_is);(case l=>k_is);(case c=>k_is);(case k=>k_is)))
set_option maxRecDepth 100000 in
set_option maxHeartbeats 0 in
theorem PySem.Challenge.cw_newsways_k79_whole_texts_of_no_wish_holds : PySem.Challenge.rw_newsways_k79_whole_texts_of_no_wish.Holds := by
 w_on;o_law;k_head;(case hw=>w_witness2)
 k_fill
 refine K79.walk (l:=PySem.Challenge.rw_newsways_k79_whole_texts_of_no_wish) rfl rfl (λw h Y=>PySem.W.kIn_of Y) ?F
 case F=>
  intro w mg fa h KX G hmg;refine' K79.all_mk KX G hmg ?h1 ?h2 ?h3 ?h4 ?h5 ?h6 ?h7 ?h8 ?h9 ?h10 ?h11 ?h12 ?h13 ?h14 ?h15 ?h16 ?h17 ?h18 ?h19 ?h20 ?h21 ?h22 ?h23 ?h24 ?h25 ?h26 ?h27 ?h28 ?h29 ?h30 ?h31 ?h32 ?h33 ?h34 ?h35 ?h36 ?h37 ?h38 ?h39 ?h40 ?h41 ?h42 ?eML' ?eMF' ?y_NewsError ?y_NoSpan ?y_NoNumber ?y_NoField ?y_NoWish ?y_NoPiece ?y_TooMany ?y_NoName ?y_Twice ?y_NotWanted ?y_NoWeb ?y_NoPost ?y_NoRoad ?y_NoHand ?y_NoLetter ?y_OnTheWay ?y_Full ?y_NoStands ?y_NoDeed ?y_NoText ?y_NoRow ?y_Stuck ?y_N ?y_W ?y_bN ?y_bW ?y_WN ?y_iW ?y_kW ?y_li ?y_ci ?y_ki ?y_oi ?y_g1 ?y_g2 ?y_g3 ?y_g4 ?y_g5 ?y_g6 ?y_ve ?t_NoSpan ?ob_NoSpan ?mr_NoSpan ?ne_NoSpan ?t_NoNumber ?ob_NoNumber ?mr_NoNumber ?ne_NoNumber ?t_NoField ?ob_NoField ?mr_NoField ?ne_NoField ?t_NoWish ?ob_NoWish ?mr_NoWish ?ne_NoWish ?t_NoPiece ?ob_NoPiece ?mr_NoPiece ?ne_NoPiece ?t_TooMany ?ob_TooMany ?mr_TooMany ?ne_TooMany ?t_NoName ?ob_NoName ?mr_NoName ?ne_NoName ?t_Twice ?ob_Twice ?mr_Twice ?ne_Twice ?t_NotWanted ?ob_NotWanted ?mr_NotWanted ?ne_NotWanted ?t_NoWeb ?ob_NoWeb ?mr_NoWeb ?ne_NoWeb ?t_NoPost ?ob_NoPost ?mr_NoPost ?ne_NoPost ?t_NoRoad ?ob_NoRoad ?mr_NoRoad ?ne_NoRoad ?t_NoHand ?ob_NoHand ?mr_NoHand ?ne_NoHand ?t_NoLetter ?ob_NoLetter ?mr_NoLetter ?ne_NoLetter ?t_OnTheWay ?ob_OnTheWay ?mr_OnTheWay ?ne_OnTheWay ?t_Full ?ob_Full ?mr_Full ?ne_Full ?t_NoStands ?ob_NoStands ?mr_NoStands ?ne_NoStands ?t_NoDeed ?ob_NoDeed ?mr_NoDeed ?ne_NoDeed ?t_NoRow ?ob_NoRow ?mr_NoRow ?ne_NoRow ?t_Stuck ?ob_Stuck ?mr_Stuck ?ne_Stuck ?z_len ?z_range ?z_isinstance ?z_int ?z_bool ?z_tuple ?z_list ?z_max ?z_min ?z_all ?z_zip ?z_str ?z_dict ?z_sorted ?z_set ?z_any ?z_sum ?z_enumerate ?z_repr ?z_ord ?z_chr ?z_abs ?z_reversed
  (case h1=>walk_at "kF");(case h2=>walk_at "kF");(case h3=>walk_at "kF");(case h4=>walk_at "kF");(case h5=>walk_at "kF");(case h6=>walk_at "kF");(case h7=>walk_at "kF");(case h8=>walk_at "kF");(case h9=>walk_at "kF");(case h10=>walk_at "kF");(case h11=>walk_at "kF");(case h12=>walk_at "kF");(case h13=>walk_at "kF");(case h14=>walk_at "kF");(case h15=>walk_at "kF");(case h16=>walk_at "kF");(case h17=>walk_at "kF");(case h18=>walk_at "kF");(case h19=>walk_at "kF");(case h20=>walk_at "kF");(case h21=>walk_at "kF");(case h22=>walk_at "kF");(case h23=>walk_at "kF");(case h24=>walk_at "kF");(case h25=>walk_at "kF");(case h26=>walk_at "kF");(case h27=>walk_at "kF");(case h28=>walk_at "kF");(case h29=>walk_at "kF");(case h30=>walk_at "kF");(case h31=>walk_at "kF");(case h32=>walk_at "kF");(case h33=>walk_at "kF");(case h34=>walk_at "kF");(case h35=>walk_at "kF");(case h36=>walk_at "kF");(case h37=>walk_at "kF");(case h38=>walk_at "kF");(case h39=>walk_at "kF");(case h40=>walk_at "kF");(case h41=>walk_at "kF");(case h42=>walk_at "kF")
  (case eML'=>k_is);(case eMF'=>k_is)
  (case y_NewsError=>k_is)
  (case y_NoSpan=>k_is)
  (case y_NoNumber=>k_is)
  (case y_NoField=>k_is)
  (case y_NoWish=>k_is)
  (case y_NoPiece=>k_is)
  (case y_TooMany=>k_is)
  (case y_NoName=>k_is)
  (case y_Twice=>k_is)
  (case y_NotWanted=>k_is)
  (case y_NoWeb=>k_is)
  (case y_NoPost=>k_is)
  (case y_NoRoad=>k_is)
  (case y_NoHand=>k_is)
  (case y_NoLetter=>k_is)
  (case y_OnTheWay=>k_is)
  (case y_Full=>k_is)
  (case y_NoStands=>k_is)
  (case y_NoDeed=>k_is)
  (case y_NoText=>k_is)
  (case y_NoRow=>k_is)
  (case y_Stuck=>k_is)
  (case y_N=>k_is)
  (case y_W=>k_is)
  (case y_bN=>exact⟨by first | k_is | rfl | decide | (with_unfolding_all rfl),by first | k_is | rfl | decide | (with_unfolding_all rfl),by first | k_is | rfl | decide | (with_unfolding_all rfl),by first | k_is | rfl | decide | (with_unfolding_all rfl)⟩)
  (case y_bW=>exact⟨by first | k_is | rfl | decide | (with_unfolding_all rfl),by first | k_is | rfl | decide | (with_unfolding_all rfl),by first | k_is | rfl | decide | (with_unfolding_all rfl),by first | k_is | rfl | decide | (with_unfolding_all rfl)⟩)
  (case y_WN=>first | k_is | rfl | decide | (with_unfolding_all rfl))
  (case y_iW=>k_is)
  (case y_kW=>k_is)
  (case y_li=>k_is)
  (case y_ci=>k_is)
  (case y_ki=>k_is)
  (case y_oi=>rfl)
  (case y_g1=>k_is)
  (case y_g2=>k_is)
  (case y_g3=>k_is)
  (case y_g4=>k_is)
  (case y_g5=>k_is)
  (case y_g6=>k_is)
  (case y_ve=>k_is)
  (case t_NoSpan=>k_is)
  (case ob_NoSpan=>k_is)
  (case mr_NoSpan=>k_is)
  (case ne_NoSpan=>first | k_is | rfl | decide | (with_unfolding_all rfl))
  (case t_NoNumber=>k_is)
  (case ob_NoNumber=>k_is)
  (case mr_NoNumber=>k_is)
  (case ne_NoNumber=>first | k_is | rfl | decide | (with_unfolding_all rfl))
  (case t_NoField=>k_is)
  (case ob_NoField=>k_is)
  (case mr_NoField=>k_is)
  (case ne_NoField=>first | k_is | rfl | decide | (with_unfolding_all rfl))
  (case t_NoWish=>k_is)
  (case ob_NoWish=>k_is)
  (case mr_NoWish=>k_is)
  (case ne_NoWish=>first | k_is | rfl | decide | (with_unfolding_all rfl))
  (case t_NoPiece=>k_is)
  (case ob_NoPiece=>k_is)
  (case mr_NoPiece=>k_is)
  (case ne_NoPiece=>first | k_is | rfl | decide | (with_unfolding_all rfl))
  (case t_TooMany=>k_is)
  (case ob_TooMany=>k_is)
  (case mr_TooMany=>k_is)
  (case ne_TooMany=>first | k_is | rfl | decide | (with_unfolding_all rfl))
  (case t_NoName=>k_is)
  (case ob_NoName=>k_is)
  (case mr_NoName=>k_is)
  (case ne_NoName=>first | k_is | rfl | decide | (with_unfolding_all rfl))
  (case t_Twice=>k_is)
  (case ob_Twice=>k_is)
  (case mr_Twice=>k_is)
  (case ne_Twice=>first | k_is | rfl | decide | (with_unfolding_all rfl))
  (case t_NotWanted=>k_is)
  (case ob_NotWanted=>k_is)
  (case mr_NotWanted=>k_is)
  (case ne_NotWanted=>first | k_is | rfl | decide | (with_unfolding_all rfl))
  (case t_NoWeb=>k_is)
  (case ob_NoWeb=>k_is)
  (case mr_NoWeb=>k_is)
  (case ne_NoWeb=>first | k_is | rfl | decide | (with_unfolding_all rfl))
  (case t_NoPost=>k_is)
  (case ob_NoPost=>k_is)
  (case mr_NoPost=>k_is)
  (case ne_NoPost=>first | k_is | rfl | decide | (with_unfolding_all rfl))
  (case t_NoRoad=>k_is)
  (case ob_NoRoad=>k_is)
  (case mr_NoRoad=>k_is)
  (case ne_NoRoad=>first | k_is | rfl | decide | (with_unfolding_all rfl))
  (case t_NoHand=>k_is)
  (case ob_NoHand=>k_is)
  (case mr_NoHand=>k_is)
  (case ne_NoHand=>first | k_is | rfl | decide | (with_unfolding_all rfl))
  (case t_NoLetter=>k_is)
  (case ob_NoLetter=>k_is)
  (case mr_NoLetter=>k_is)
  (case ne_NoLetter=>first | k_is | rfl | decide | (with_unfolding_all rfl))
  (case t_OnTheWay=>k_is)
  (case ob_OnTheWay=>k_is)
  (case mr_OnTheWay=>k_is)
  (case ne_OnTheWay=>first | k_is | rfl | decide | (with_unfolding_all rfl))
  (case t_Full=>k_is)
  (case ob_Full=>k_is)
  (case mr_Full=>k_is)
  (case ne_Full=>first | k_is | rfl | decide | (with_unfolding_all rfl))
  (case t_NoStands=>k_is)
  (case ob_NoStands=>k_is)
  (case mr_NoStands=>k_is)
  (case ne_NoStands=>first | k_is | rfl | decide | (with_unfolding_all rfl))
  (case t_NoDeed=>k_is)
  (case ob_NoDeed=>k_is)
  (case mr_NoDeed=>k_is)
  (case ne_NoDeed=>first | k_is | rfl | decide | (with_unfolding_all rfl))
  (case t_NoRow=>k_is)
  (case ob_NoRow=>k_is)
  (case mr_NoRow=>k_is)
  (case ne_NoRow=>first | k_is | rfl | decide | (with_unfolding_all rfl))
  (case t_Stuck=>k_is)
  (case ob_Stuck=>k_is)
  (case mr_Stuck=>k_is)
  (case ne_Stuck=>first | k_is | rfl | decide | (with_unfolding_all rfl))
  (case z_len=>k_is);(case z_range=>k_is);(case z_isinstance=>k_is);(case z_int=>k_is);(case z_bool=>k_is);(case z_tuple=>k_is);(case z_list=>k_is);(case z_max=>k_is);(case z_min=>k_is);(case z_all=>k_is);(case z_zip=>k_is);(case z_str=>k_is);(case z_dict=>k_is);(case z_sorted=>k_is);(case z_set=>k_is);(case z_any=>k_is);(case z_sum=>k_is);(case z_enumerate=>k_is);(case z_repr=>k_is);(case z_ord=>k_is);(case z_chr=>k_is);(case z_abs=>k_is);(case z_reversed=>k_is)
