import PyProof.Rows.All
import Wide.All
import OpenK.AllK
import Wide.FinOn
import Lean
import PyProof.EqAt
import PyProof.EqKinds
import PyProof.TupleCall
import PyProof.NeKinds
import KE.IntBitsLaws
import PyProof.StationsW
import PyProof.RulesAs
import OpenK.KRaise
import PyProof.ExcInit
import PyProof.ExcBaseAll.ValueError
import PyProof.PassesOwn
import PyProof.NsDelKeeps
import PyProof.Rows.Catch
import PyProof.FString
import PyProof.Rows.FStr
import PyProof.ExcArgs
import PyProof.ExcAttrAll.ValueError
import PyProof.StrWalks
import PyProof.FString5
import PyProof.ConsumeWalk
import PyProof.DictCompW
import PyProof.ZipIter
import PyProof.EnumMake
import PyProof.Rows.SetFrom
import KE.KRevSl
import PyProof.FitsBits
import PyProof.Rows.SortWalk
import PyProof.ListRange
import PyProof.ReprRoads
import PyProof.ReprText
import PyProof.CallFns
import KE.KEqDict
import PyProof.AutoListH
import PyProof.AttrMissHeap
import PyProof.ListNew
import PyProof.DictUpdate
import PyProof.Rows.SortStr
import PyProof.StrBlockL
import PyProof.JoinWalk
import PyProof.Rows.StrMeet
import PyProof.DictWalks
import PyProof.SliceStr2
import PyProof.StrOps2
import PyProof.Rows.StrMadeLen
import PyProof.StrLawsIn
import OpenK.KTop
import KE.KSortTup
import KE.KSortKey
import PyProof.SumAny
import PyProof.WalkInts
import PySem.Challenge.RW_newsways_k30_what_is_a_letter
open Array renaming length_toList → A3, getElem?_toList → Cr, getElem?_eq_getElem → CT
open Bool renaming and_eq_true → Ah, false_ne_true → Ar, true_and → Ax, and_true → AZ, false_and → Bj, and_false → Bm, eq_iff_iff → BU, false_eq_true → C9, not_eq_true' → CM, and_assoc → D2, eq_false_iff → DA
open False renaming elim → Bx
open Int renaming emod_lt_of_pos → Bn, emod_nonneg → Bv, toNat_natCast → Ch, eq_ofNat_of_zero_le → Db
open List renaming length_map → Ab, size_toArray → Ag, length_append → Ai, map_append → Am, mem_singleton → Ao, mem_cons → Aq, take_of_length_le → As, length_cons → Aw, all_eq_true → Ay, getElem?_eq_some_iff → Az, mem_cons_of_mem → A1, length_take → A4, getElem?_map → A5, mem_cons_self → A6, not_mem_nil → A8, all_cons → A9, getElem?_eq_getElem → AB, mem_append → AC, mem_append_right → AD, getD_eq_getElem?_getD → AE, map_cons → AH, mem_of_getElem? → AO, length_drop → AU, lookup_cons → AX, mem_map → AY, range → Ba, mem_map_of_mem → Bd, Nodup → Bh, all_append → Bo, range_succ_eq_map → BH, take_append_drop → BN, take_length → BQ, pairwise_cons → Cb, nodup_append → Cj, length_singleton → Cp, nodup_cons → Ct, mem_of_getLast? → C2, getLast?_append → C3, filterMap_cons → C5, getElem?_append_right → CD, length_range → CN, getElem?_append_left → CP, filter_cons → CZ, sublist_append_left → C_, pairwise_singleton → Dd, getLast?_cons_cons → De, append_nil → Dh, of_mem_zip → Di, forIn_cons → Dk, getElem?_set_self → Dm, drop_of_length_le → Dt, mem_range → Dv, forIn_nil → D0, mem_append_left → D3, getElem?_set_ne → D4, pairwise_append → D5, mem_of_mem_drop → D6, take_succ_cons → D8, drop_succ_cons → D9
open Nat renaming le_refl → Ae, ne_of_lt → Au, lt_of_lt_of_le → A0, le_of_lt → AQ, le_trans → AV, lt_trans → Bf, lt_irrefl → Bw, zero_le → BA, ne_of_gt → BB, lt_succ_self → BD, le_add_right → BP, lt_succ_of_lt → CO
open Option renaming isSome_iff_exists → BY, getD_none → CV
open Option.some renaming inj → A2
open PyProof.Rows renaming slot_tuple_getitem → AN, callWith_type1 → Bt, callWith_builtin1 → Cu, subscriptTail_builtinR → Dn
open PySem renaming wpAny_bind → Aa, wpAny_pure → Af, sizeLine → Ak, mainGlobals → Al, starEach → Av, wpAny_loadPart' → A7, bootBuiltins → AA, wpAny_field → AG, FuncData → AJ, compareOp → AK, wpAny_truthy_bool → AM, cellsFrom → AS, wpAny_callSpecial?_slot → AT, Program → A_, wpAny_seqItems → Bb, Around → Be, wpAny_Call_Name_kw → Bk, wpAny_newObj_type → Bp, wpAny_call_entry → Bq, wpAny_mono → Br, wpAny_setField_rec → Bu, mem_of_lookup → BE, codeAny_builtin → BG, sysModules → BO, wpAny_holding → BR, wpAny_passesOwn → BS, wpAny_pyIter_tuple → BW, codeAny_mono → BX, plainId_quiet → Cn, DictEntry → Cq, letOwnedTupleGo → Cs, wpAny_typeOf → Cv, wpAny_updateSeq_pair → Cy, codeAny_call_builtin → Cz, wpAny_richCompare_same_room → CA, wpAny_onRaise → CH, wpAny_pyIter_list → CJ, wpAny_sequenceKey → CK, wpAny_rule → CS, wpAny_execs_nil → Dg, wpAny_letGo → Dq, wpAny_listPart → Dz
open PySem.Around renaming under_plainId → Bz, in1_units → Co
open PySem.AutoSeq1 renaming sub_list_list → Ds
open PySem.Builtin.Int renaming intBits → C6
open PySem.Builtin.List renaming listSubscript? → C7, listAllItems → CQ, listTooLong → CW, listSameRef → CY
open PySem.Builtin.Slice renaming slicePlaces → By, sliceAdjust → BV, sliceApplied → CF
open PySem.Builtin.SmallTypes renaming nextOf → AF, ownedTupleIsFree → Bc, ownedTupleHandOut → Ca
open PySem.Builtin.Str renaming strSliceIndices → AL, occurrences → Da
open PySem.Builtin.Tuple renaming tupleExact → BC, tupleItemsOf → CG
open PySem.Calls renaming Name_function_global → CC, callWith_builtin → Dp
open PySem.F renaming slot_tuple_iterator_next → Bi, slot_zip_next → BM, args_tuple_add_2 → BZ, slot_list_append → Cc, type_list_append → Cd, entry_tuple_add → Cf, plainAttrs_list → Cg, args_tuple_iterator_next_1 → Ci, slot_tuple_add → Ck, entry_tuple_iterator_next → Cm, args_zip_next_1 → Dc, entry_zip_next → Dr, plainAttrs_str → Du, plain_set_new → D1
open PySem.Heap renaming get?_push_of_some → Ac, lt_size → Aj, get?_push_size → An, size_push → AW, SameBut → CU, get?_update_other → Do, get?_update_self → Dy
open PySem.Heap.SameBut renaming update → D7
open PySem.Obj renaming mapSeq → Cw
open PySem.PassesOwn renaming never → AI
open PySem.SeqAt.EqAt renaming same → Dl
open PySem.SeqAt.RcAt renaming lists_lengths → B_, tuples → CL
open PySem.Str renaming ofString → BL
open PySem.Unicode renaming upperOf → C1
open PySem.Value renaming isStrOf → CB
open PySem.W renaming Frag → Ad, kia_one → AR, cellsFrom_some → Bs, mg_of → BF, keepIn → BI, fnOf → BK, kitOne → Ce, nsIn → C4, methodObj → CI, instObj → Df, OpenLaw → Dj, lookIn → Dw, codeIn → Dx
open PySem.W.KFB renaming if_not → C8
variable{s:PySem.Shared}{w:PySem.World}{A:PySem.Around}{E:PySem.Value→PySem.Shared→Prop}{K:Ad}{pins:List (PySem.Addr×PySem.Obj)}{prog:PySem.Program}{pos:PySem.Pos}{h:PySem.Heap}{a:PySem.Addr}{b:PySem.Addr}{i:Nat}{n:Nat}{k:Nat}{us:List PySem.Value}{P:PySem.Program}{u:PySem.Value}{e:PySem.Expr}{scope:PySem.Scope}
open PySem PySem.Spec PyProof.Rows
set_option Elab.async false
set_option linter.all false
set_option maxRecDepth 100000
namespace L2
abbrev Gi:=Sum Int Str
def N7:Gi→Value→Bool
 | .inl k,v=>Value.isInt k v
 | .inr x,v=>CB x v
def Nh(w:World):Gi→Int
 | .inl k=>hashInt k
 | .inr x=>hashStr w x
theorem HK:∀{k:Gi}{v:Value},N7 k v=true→(∃i t,k=Sum.inl i∧v=Value.int i t)∨(∃x t,k=Sum.inr x∧v=Value.str x t)
 | .inl i,v,h=>by obtain⟨t,e⟩:=Value.isInt_shape (k:=i) (v:=v) h;exact .inl ⟨i,t,rfl,e⟩
 | .inr x,v,h=>by obtain⟨t,e⟩:=Value.isStrOf_shape (x:=x) (v:=v) h;exact .inr ⟨x,t,rfl,e⟩
theorem Qj(a b:Int):decide ((Sum.inl a:Gi)=Sum.inl b)=(a==b):=by
 by_cases e:a=b
 · subst e;simp
 · have h:¬(Sum.inl a:Gi)=Sum.inl b:=λq=>e (Sum.inl.inj q);rw[decide_eq_false h];exact(beq_eq_false_iff_ne.mpr e).symm
theorem Qm(a b:Str):decide ((Sum.inr a:Gi)=Sum.inr b)=decide (a=b):=by
 by_cases e:a=b
 · subst e;simp
 · have h:¬(Sum.inr a:Gi)=Sum.inr b:=λq=>e (Sum.inr.inj q);rw[decide_eq_false h,decide_eq_false e]
theorem Qk(a:Int)(b:Str):decide ((Sum.inl a:Gi)=Sum.inr b)=false:=decide_eq_false (λq=>nomatch q)
theorem Ql(a:Str)(b:Int):decide ((Sum.inr a:Gi)=Sum.inl b)=false:=decide_eq_false (λq=>nomatch q)
def LH(prog:A_)(w:World):PySem.KeyKind prog w Gi where
 is:=N7
 hash:=Nh w
 inj:=λv a b ha hb=>by
  rcases HK ha with⟨i,t,rfl,rfl⟩ | ⟨x,t,rfl,rfl⟩
  · rcases HK hb with⟨j,u,rfl,e⟩ | ⟨y,u,rfl,e⟩
    · injection e with e1 _;rw[e1]
    · exact nomatch e
  · rcases HK hb with⟨j,u,rfl,e⟩ | ⟨y,u,rfl,e⟩
    · exact nomatch e
    · injection e with e1 _;rw[e1]
 byValue:=λk v h=>by rcases HK h with⟨i,t,rfl,rfl⟩ | ⟨x,t,rfl,rfl⟩<;>rfl
 pyHash:=λhv h=>by
  rcases HK hv with⟨i,t,rfl,rfl⟩ | ⟨x,t,rfl,rfl⟩
  · exact wpAny_pyHash_int h
  · exact wpAny_pyHash_str h
 eqBool:=λhu hv h=>by
  rcases HK hu with⟨i,t,rfl,rfl⟩ | ⟨x,t,rfl,rfl⟩
  · rcases HK hv with⟨j,u,rfl,rfl⟩ | ⟨y,u,rfl,rfl⟩
    · rw[Qj] at h;exact wpAny_eqBool_int h
    · rw[Qk] at h;exact SeqAt.EqAt.int_str i t y u _ _ _ _ h
  · rcases HK hv with⟨j,u,rfl,rfl⟩ | ⟨y,u,rfl,rfl⟩
    · rw[Ql] at h;exact SeqAt.EqAt.str_int x t j u _ _ _ _ h
    · rw[Qm] at h;exact wpAny_eqBool_str h
 «strs»:=λk x t v h=>by
  rcases HK h with⟨i,u,rfl,e⟩ | ⟨y,u,rfl,e⟩
  · exact nomatch e
  · injection e with e1 _
    subst e1;cases v<;>rfl
inductive V where
 | non | bl (b:Bool) | int (i:Int) | str (x:Str) | byt (b:Array UInt8) | flt (b:UInt64) | ref (a:Addr) | ty (n:String)
 deriving DecidableEq
def RelV:V→Value→Prop
 | .non,u=>u=Value.none
 | .bl b,u=>u=Value.bool b
 | .int i,u=>∃t,u=Value.int i t
 | .str x,u=>∃t,u=Value.str x t
 | .byt b,u=>∃t,u=Value.bytes b t
 | .flt b,u=>∃t,u=Value.float b t
 | .ref a,u=>u=Value.ref a
 | .ty n,u=>u=Value.type n
abbrev Vals:List V→List Value→Prop:=Paired RelV
theorem Vals.length{xs:List V}(r:Vals xs us):xs.length=us.length:=Paired.length r
theorem Vals.get:∀{xs:List V}{us:List Value}{i:Nat}{x:V},Vals xs us→xs[i]?=some x→∃u,us[i]?=some u∧RelV x u
 | _,_,_,_,.nil,e=>by simp at e
 | _,_,0,_,.cons r _,e=>by simp at e;subst e;exact⟨_,rfl,r⟩
 | _,_,i+1,x,.cons _ t,e=>by obtain⟨u,h1,h2⟩:=Vals.get (i:=i) (x:=x) t (by simpa using e);exact⟨u,by simpa using h1,h2⟩
theorem Vals.set{x:V}(r:RelV x u):∀{xs:List V}{us:List Value}(i:Nat),Vals xs us→Vals (xs.set i x) (us.set i u)
 | _,_,_,.nil=> .nil
 | _,_,0,.cons _ t=> .cons r t
 | _,_,i+1,.cons q t=> .cons q (Vals.set r i t)
theorem Vals.append:∀{xs ys:List V}{us ws:List Value},Vals xs us→Vals ys ws→Vals (xs++ys) (us++ws)
 | _,_,_,_,.nil,s=>s
 | _,_,_,_,.cons r t,s=> .cons r (Vals.append t s)
theorem Vals.take:∀{xs:List V}{us:List Value}(n:Nat),Vals xs us→Vals (xs.take n) (us.take n)
 | _,_,0,_=> .nil
 | _,_,_+1,.nil=> .nil
 | _,_,n+1,.cons r t=> .cons r (Vals.take n t)
theorem Vals.drop:∀{xs:List V}{us:List Value}(n:Nat),Vals xs us→Vals (xs.drop n) (us.drop n)
 | _,_,0,r=>r
 | _,_,_+1,.nil=> .nil
 | _,_,n+1,.cons _ t=>Vals.drop n t
def Jc:Option V→Option Value→Prop
 | some v,some u=>RelV v u
 | none,none=>True
 | _,_=>False
def KV{κ:Type}:List (κ×V)→List (κ×Value)→Prop:=Paired λ(p:κ×V)(q:κ×Value)=>p.1=q.1∧RelV p.2 q.2
def kV:Gi→V
 | .inl i=> .int i
 | .inr x=> .str x
inductive HO where
 | lst (xs:List V)
 | tup (xs:List V)
 | dK (kvs:List (Gi×V)) | dT (kvs:List (List Gi×V))
 | set (S:Int→Bool) (n:Nat)
 | ins (C dx:Addr) (fs:List (Str×V))
 | own (x:Addr)
 | xd (fs:List (Str×V))
 | met (f x:Addr)
 | rng (lo hi:Int)
 | frz (o:Obj) (u:HO)
 | tbl (ps:Array Value)
 | ext (φ:Heap→Prop)
def IsTupP(h:Heap)(a:Addr)(items:Array Value):Prop:=∃o,h.get? a=some o∧o.cls= .type "tuple"∧o.dict=none∧∃n,o.data= .seq items n
theorem IsTupP.tup{items:Array Value}(x:IsTupP h a items):IsTup h a items:=let⟨o,h1,h2,_,h3⟩:=x;⟨o,h1,h2,h3⟩
theorem IsTupP.new(h:Heap)(items:Array Value):IsTupP (h.push {cls:= .type "tuple",data:= .seq items}) h.objs.size items:=⟨_,An _ rfl,rfl,rfl,_,rfl⟩
abbrev Hp:=Addr→Option HO
def EO(H:Hp)(a:Addr)(o:HO):Hp:=λb=>if b=a then some o else H b
theorem EU{H:Hp}{o:HO}:EO H a o a=some o:=by unfold EO;rw[if_pos rfl]
theorem Fz{H:Hp}{o:HO}(h:b≠a):EO H a o b=H b:=by unfold EO;rw[if_neg h]
theorem P7{H:Hp}{o u:HO}(h:H a=some o)(h':H b=some u)(d:o≠u):a≠b:=by intro e;subst e;rw[h] at h';exact d (A2 h')
theorem GU{H:Hp}{o:HO}(h:H a=some o)(h':H b=none):a≠b:=by intro e;subst e;rw[h] at h';cases h'
section
variable(P:A_)(w:World)
def ObjOk(H:Hp)(h:Heap)(a:Addr):HO→Prop
 | .lst xs=>xs.length≤Ak∧∃(its:List Value)(n:Nat),Vals xs its∧h.get? a=some {cls:= .type "list",data:= .seq its.toArray n}
 | .tup xs=>xs.length≤Ak∧∃its:List Value,Vals xs its∧IsTupP h a its.toArray
 | .dK kvs=>kvs.length≤Ak∧(a==BO)=false∧∃vs,KV kvs vs∧h.DictOf (LH P w) a vs
 | .dT kvs=>kvs.length≤Ak∧(a==BO)=false∧∃xs:List (List Gi×Addr×Value),
  Paired (λ(p:List Gi×V)(q:List Gi×Addr×Value)=>p.1=q.1∧H q.2.1=some (.tup (p.1.map kV))∧RelV p.2 q.2.2) kvs xs∧
  ∃o es ep,h.get? a=some o∧o.ExactDict∧o.data= .dict es ep∧es.toList=xs.map (entryOfKey (tupleKind (LH P w)))∧(xs.map (·.1)).Nodup
 | .set S n=>h.SetOf (intKind P w) a S n
 | .ins C dx fs=>H dx=some (.own a)∧fs.length≤1000∧dx≠a∧h.get? a=some (Df C dx)∧
  ∃mA,h.Ns1 dx mA∧(∀f,Jc (fs.lookup f) (mA f))∧PySem.Within mA (fs.map (·.1))
 | .own _=>∃o,h.get? a=some o
 | .xd fs=>∃mA,h.Ns1 a mA∧∀f,Jc (fs.lookup f) (mA f)
 | .rng lo hi=>∃t u v,h.get? a=some {cls:= .type "range",data:= .fields #[.int lo t,.int hi u,.int 1 v]}
 | .frz o u=>h.get? a=some o∧ObjOk H h a u
 | .tbl ps=>h.get? a=some {cls:= .none,data:= .fields ps}
 | .met f x=>h.get? a=some (CI (.ref f) (.ref x))
 | .ext φ=>φ h∧(∃o,h.get? a=some o)∧∀h1 h2:Heap,φ h1→(∀o,h1.get? a=some o→h2.get? a=some o)→φ h2
def HOk(H:Hp)(h:Heap):Prop:=∀a o,H a=some o→ObjOk P w H h a o
end
section
variable{H H':Hp}{h':Heap}{o:HO}
theorem ObjOk.lt(x:ObjOk P w H h a o):a<h.objs.size:=by
 cases o with
 | lst xs=>obtain⟨_,_,_,_,e⟩:=x;exact Aj e
 | tup xs=>obtain⟨_,_,_,p⟩:=x;exact(show IsTupP _ _ _ from p).tup.lt
 | dK kvs=>obtain⟨_,_,_,_,o,_,_,e,_⟩:=x;exact Aj e
 | dT kvs=>obtain⟨_,_,_,_,o,_,_,e,_⟩:=x;exact Aj e
 | set S n=>obtain⟨o,_,_,_,e,_⟩:=x;exact Aj e
 | ins C dx fs=>obtain⟨_,_,_,e,_⟩:=x;exact Aj e
 | own y=>obtain⟨_,e⟩:=x;exact Aj e
 | xd fs=>obtain⟨_,⟨_,_,_,e,_⟩,_⟩:=x;exact Aj e
 | rng lo hi=>obtain⟨_,_,_,e⟩:=x;exact Aj e
 | frz ob u=>obtain⟨e,_⟩:=x;exact Aj e
 | tbl ps=>exact Aj (show h.get? a=some _ from x)
 | met f y=>exact Aj (show h.get? a=some _ from x)
 | ext φ=>obtain⟨_,⟨_,e⟩,_⟩:=x;exact Aj e
theorem Paired.mapP{α β:Type}{F G:α→β→Prop}:∀{l₁:List α}{l₂:List β},Paired F l₁ l₂→(∀a b,F a b→G a b)→Paired G l₁ l₂
 | _,_,.nil,_=> .nil
 | _,_,.cons r t,f=> .cons (f _ _ r) (Paired.mapP t f)
theorem ObjOk.stay(x:ObjOk P w H h a o)(k:∀b u,(b=a∨H b=some (.own a))→h.get? b=some u→h'.get? b=some u)
 (ho:∀b,H b=some (.own a)→H' b=some (.own a)) (ht:∀b xs,H b=some (.tup xs)→H' b=some (.tup xs)):ObjOk P w H' h' a o:=by
 induction o with
 | lst xs=>obtain⟨z,its,n,r,e⟩:=x;exact⟨z,its,n,r,k _ _ (.inl rfl) e⟩
 | tup xs=>obtain⟨z,its,r,ob,e,c⟩:=x;exact⟨z,its,r,ob,k _ _ (.inl rfl) e,c⟩
 | dK kvs=>obtain⟨z,y,vs,r,ob,es,ep,e,c⟩:=x;exact⟨z,y,vs,r,ob,es,ep,k _ _ (.inl rfl) e,c⟩
 | dT kvs=> obtain⟨z,y,xs,r,ob,es,ep,e,c⟩:=x;exact⟨z,y,xs,Paired.mapP r λp q z=>⟨z.1,ht _ _ z.2.1,z.2.2⟩,ob,es,ep,k _ _ (.inl rfl) e,c⟩
 | set S n=>obtain⟨ob,es,ep,t,e,c⟩:=x;exact⟨ob,es,ep,t,k _ _ (.inl rfl) e,c⟩
 | ins C dx fs=> obtain⟨d,z,ne,e,mA,⟨od,es,ep,e2,c⟩,r⟩:=x;exact⟨ho _ d,z,ne,k _ _ (.inl rfl) e,mA,⟨od,es,ep,k _ _ (.inr d) e2,c⟩,r⟩
 | own y=>obtain⟨ob,e⟩:=x;exact⟨ob,k _ _ (.inl rfl) e⟩
 | xd fs=>obtain⟨mA,⟨od,es,ep,e,c⟩,r⟩:=x;exact⟨mA,⟨od,es,ep,k _ _ (.inl rfl) e,c⟩,r⟩
 | rng lo hi=>obtain⟨t,u,v,e⟩:=x;exact⟨t,u,v,k _ _ (.inl rfl) e⟩
 | frz ob u ih=>obtain⟨e,q⟩:=x;exact⟨k _ _ (.inl rfl) e,ih q⟩
 | tbl ps=> have e:h.get? a=some {cls:= .none,data:= .fields ps}:=x;show h'.get? a=some {cls:= .none,data:= .fields ps};exact k a _ (.inl rfl) e
 | met f y=> have e:h.get? a=some (CI (.ref f) (.ref y)):=x;show h'.get? a=some (CI (.ref f) (.ref y));exact k a _ (.inl rfl) e
 | ext φ=>obtain⟨p,⟨o,e⟩,st⟩:=x;exact⟨st _ _ p λo q=>k _ _ (.inl rfl) q,⟨o,k _ _ (.inl rfl) e⟩,st⟩
theorem HOk.lt(x:HOk P w H h)(e:H a=some o):a<h.objs.size:=(x a o e).lt
theorem HOk.fresh(x:HOk P w H h)(e:h.objs.size≤a):H a=none:=by
 cases q:H a with
 | none=>rfl
 | some u=>exact absurd (A0 (x.lt q) e) (Bw _)
theorem HOk.kept(x:HOk P w H h)(k:∀b u,h.get? b=some u→h'.get? b=some u):HOk P w H h':=λa o e=>
 (x a o e).stay (λb u _ q=>k b u q) (λ_ q=>q) λ_ _ q=>q
theorem HOk.laid(x:HOk P w H h)(k:∀b u,h.get? b=some u→h'.get? b=some u)(hp:h.objs.size≤a)(new:ObjOk P w (EO H a o) h' a o):HOk P w (EO H a o) h':=λb u e=>by
 have hn:=x.fresh hp;by_cases hb:b=a
 · subst hb;rw[EU] at e;cases e;exact new
 · rw[Fz hb] at e;exact(x b u e).stay (λc v _ q=>k c v q) (λc q=>by rw[Fz (GU q hn)];exact q) λc xs q=>by rw[Fz (GU q hn)];exact q
end
def Rd(H:Hp)(a:Addr)(u:HO):Prop:=H a=some u∨∃o,H a=some (.frz o u)
theorem Rd.ok{H:Hp}{u:HO}(r:Rd H a u)(x:HOk P w H h):ObjOk P w H h a u:=by
 rcases r with r | ⟨o,r⟩
 · exact x a u r
 · obtain⟨_,q⟩:=x a _ r;exact q
def L3:Option HO→Prop
 | some (.lst _)=>True
 | some (.dK _)=>True
 | some (.dT _)=>True
 | some (.set _ _)=>True
 | some (.ins _ _ _)=>True
 | some (.ext _)=>True
 | _=>False
section
variable{H:Hp}{h':Heap}{x e:Addr}{o':HO}
theorem HOk.write(ok:HOk P w H h)(mu:L3 (H x))(he:e=x∨H e=some (.own x))(k:∀b u,b≠e→h.get? b=some u→h'.get? b=some u)(heo:∃u,h'.get? e=some u)
 (new:ObjOk P w (EO H x o') h' x o'):HOk P w (EO H x o') h':=λb u q=>by
 have nown:∀c y,H c=some (.own y)→c≠x:=λc y r z=>by subst z;rw[r] at mu;exact mu
 have ntup:∀c xs,H c=some (.tup xs)→c≠x:=λc xs r z=>by subst z;rw[r] at mu;exact mu
 by_cases hb:b=x
 · subst hb;rw[EU] at q;cases q;exact new
 · rw[Fz hb] at q;by_cases hbe:b=e
   · have q':H b=some (.own x):=by
      rcases he with z | z
      · exact absurd (hbe.trans z) hb
      · rw[hbe];exact z
     rw[q] at q';cases q';obtain⟨v,hv⟩:=heo;exact⟨v,by rw[hbe];exact hv⟩
   · refine(ok b u q).stay (λc v hc r=>k c v ?_ r) (λc r=>by rw[Fz (nown c b r)];exact r) λc xs r=>by rw[Fz (ntup c xs r)];exact r
     rcases hc with rfl | hc
     · exact hbe
     · rintro rfl;rcases he with z | z
       · exact nown c b hc z
       · rw[hc] at z;cases z;exact hb rfl
end
structure Un(fs ex:List Addr)(H H':Hp)(h h':Heap):Prop where
 keep:∀b o,h.get? b=some o→H b=none→b ∉ fs→b ∉ ex→h'.get? b=some o
 slot:∀b o,h.get? b=some o→H b=none→b∈fs→b ∉ ex→∃sl,h'.get? b=some {o with slots:=sl}
 free:∀b o,h.get? b=some o→H b=none→b ∉ ex→H' b=none
 there:∀b o,h.get? b=some o→b ∉ ex→∃o',h'.get? b=some o'
 tups:∀b xs,H b=some (.tup xs)→H' b=some (.tup xs)
 frzs:∀b o u,H b=some (.frz o u)→H' b=some (.frz o u)
 tbls:∀b ps,H b=some (.tbl ps)→∃more,H' b=some (.tbl (ps++more))
section
variable{fs fs' ex ex':List Addr}{H H1 H2:Hp}{h1 h2 h':Heap}{x e:Addr}{o:HO}
theorem Un.any(u:Un fs ex H H1 h h1){ob:Obj}(q:h.get? b=some ob)(n:H b=none)(hx:b ∉ ex):∃sl,h1.get? b=some {ob with slots:=sl}:=by
 by_cases hb:b∈fs
 · exact u.slot b ob q n hb hx
 · exact⟨ob.slots,u.keep b ob q n hb hx⟩
theorem Un.kept(k:∀b u,h.get? b=some u→h'.get? b=some u):Un fs ex H H h h':=
 ⟨λb ob q _ _ _=>k b ob q,λb ob q _ _ _=>⟨ob.slots,k b ob q⟩,λ_ _ _ n _=>n,λb ob q _=>⟨ob,k b ob q⟩,λ_ _ q=>q,λ_ _ _ q=>q,λ_ ps q=>⟨#[],by rw[q];simp⟩⟩
theorem Un.refl:Un fs ex H H h h:=Un.kept λ_ _ q=>q
theorem Un.laid(k:∀b u,h.get? b=some u→h'.get? b=some u)(hp:h.objs.size≤a)(hn:H a=none):Un fs ex H (EO H a o) h h' where
 keep:=λb u q _ _ _=>k b u q
 slot:=λb u q _ _ _=>⟨u.slots,k b u q⟩
 free:=λb u q n _=>by rw[Fz (Au (A0 (Aj q) hp))];exact n
 there:=λb u q _=>⟨u,k b u q⟩
 tups:=λb xs q=>by rw[Fz (GU q hn)];exact q
 frzs:=λb u xs q=>by rw[Fz (GU q hn)];exact q
 tbls:=λb ps q=>⟨#[],by rw[Fz (GU q hn),q];simp⟩
theorem Un.write(mu:L3 (H x))(he:e=x∨H e=some (.own x))(k:∀b u,b≠e→h.get? b=some u→h'.get? b=some u)(heo:∃u,h'.get? e=some u):Un fs ex H (EO H x o) h h':=by
 have hx:∀b,H b=none→b≠x:=λb n z=>by subst z;rw[n] at mu;exact mu
 have hb:∀b,H b=none→b≠e:=λb n z=>by
  subst z;rcases he with r | r
  · exact hx b n r
  · rw[n] at r;cases r
 have hm:∀b u,H b=some u→¬L3 (some u)→b≠x:=λb u q nm z=>by subst z;rw[q] at mu;exact nm mu
 refine⟨λb u q n _ _=>k b u (hb b n) q,λb u q n _ _=>⟨u.slots,k b u (hb b n) q⟩,λb u q n _=>by rw[Fz (hx b n)];exact n,λb u q _=>?_,
  λb xs q=>by rw[Fz (hm b _ q λz=>z)];exact q,λb u xs q=>by rw[Fz (hm b _ q λz=>z)];exact q,λb ps q=>⟨#[],by rw[Fz (hm b _ q λz=>z),q];simp⟩⟩
 by_cases hbe:b=e
 · subst hbe;exact heo
 · exact⟨u,k b u hbe q⟩
end
def Ll(h:Heap)(H:Hp):List Addr:=(Ba h.objs.size).filter λa=>(H a).isSome
def Gx(h:Heap)(H:Hp):Heap:=PySem.W.hideAll h (Ll h H)
theorem QX(h:Heap)(H:Hp):(Gx h H).objs.size=h.objs.size:=PySem.W.hideAll_size _ _
theorem QA{H:Hp}{o:Obj}(e:h.get? b=some o)(n:H b=none):(Gx h H).get? b=some o:=
 PySem.W.hideAll_get _ e λhm=>by have q:(H b).isSome=true:=(List.mem_filter.mp hm).2;rw[n] at q;simp at q
theorem QV{H:Hp}{o:Obj}(e:(Gx h H).get? b=some o):h.get? b=some o∧H b=none:=by
 have e':h.get? b=some o:=PySem.W.of_hideAll (Ll h H) e;refine⟨e',?_⟩;cases q:H b with
 | none=>rfl
 | some x=> have hm:b∈Ll h H:=List.mem_filter.mpr ⟨Dv.mpr (Aj e'),by simp[q]⟩;have z:(Gx h H).get? b=none:=PySem.W.hideAll_none (Ll h H) hm;rw[z] at e;cases e
def PU(g h:Heap)(L:Addr):List (Addr×Obj):=(Ba h.objs.size).filterMap λa=>if a=L∨(g.get? a).isSome=true then none else(h.get? a).map λo=>(a,o)
def FM(g h:Heap)(L d:Addr):List (Addr×Obj):=(PU g h L).filter λp=>decide (p.1≠d)
structure Mod(K:Ad)(mg:Str→Option Value)(base:Heap):Prop where
 kin:K.In base
 glob:base.Ns Al mg
 blt:∃mb,base.Ns builtinsNs mb∧∀x:Str,x≠"__name__"→mb x=AA x
 nolimit:base.NoLimit
structure Cx where
 prog:A_
 w:World
 K:Ad
 mg:Str→Option Value
 base:Heap
 A:Be
 N:List Str
 s₀:Shared
 H₀:Hp
 env:Env
 outer:List Env
 stack:List Env
 ex:List Addr
 fn:Str→Bool
 calm:Bool
 pn:List (Addr×Obj)
 xe:Value→Shared→Prop
def Hi(l:List Env):List Addr:=l.filterMap (·.frame)
abbrev Cx.fs(X:Cx):List Addr:=Hi X.outer
def L1(sc:Scope)(x:Str):Prop:=sc.names.lookup x=some .local∨sc.names.lookup x=some .cell∨sc.names.lookup x=some .free
def L4(sc:Scope)(x:Str):Prop:=sc.names.lookup x=some .local∨sc.names.lookup x=some .cell
def Nt(env:Env)(h:Heap)(m:Str→Option Value)(x:Str)(u:Value):Prop:=
 (env.kindOf x=some .local∧m x=some u)∨((env.kindOf x=some .cell∨env.kindOf x=some .free)∧∃c,env.cells.lookup x=some c∧h.IsCell c (some u))
structure Cx.Ok(X:Cx):Prop where
 mod:Mod X.K X.mg X.base
 kind:X.env.scope.kind= .function
 glob:X.env.globals=Al
 blt:X.env.builtins=builtinsNs
 above:X.s₀.heap.objs.size≤X.env.locals
 inj:∀x y c,X.env.cells.lookup x=some c→X.env.cells.lookup y=some c→x=y
 has:∀x,(X.env.kindOf x=some .cell∨X.env.kindOf x=some .free)→∃c,X.env.cells.lookup x=some c
 cab:∀x c,X.fn x=true→X.env.cells.lookup x=some c→X.s₀.heap.objs.size≤c
 hd:X.calm=true→X.A.handled=none
 frames:X.A.frames=some X.stack
 stk:X.stack=X.outer∨(X.stack=X.env::X.outer∧X.env.frame=some X.env.locals)
 exf:∀b∈X.ex,b≠X.env.locals∧∀x c,X.env.cells.lookup x=some c→c≠b
 bs:∀b o,X.base.get? b=some o→X.s₀.heap.get? b=some o∧X.H₀ b=none
 bsz:X.base.objs.size≤X.s₀.heap.objs.size
 noex:∀b o,X.base.get? b=some o→b ∉ X.ex
 exfs:∀b∈X.ex,b ∉ X.fs
 funs:X.s₀.heap.FunFrames X.base X.outer
 frf:∀b∈X.fs,X.H₀ b=none
structure Inv(X:Cx)(pins:List (Addr×Obj))(σ:List (Option V))(H:Hp)(s:Shared):Prop where
 ok:X.Ok
 os:s.os=X.s₀.os
 bare:AllBare s.gens
 base:Un X.fs X.ex X.H₀ H X.s₀.heap s.heap
 loc:∃m,s.heap.Ns X.env.locals m∧∀(i:Nat)(x:Str)(v:V),X.N[i]?=some x→σ[i]?=some (some v)→L1 X.env.scope x→∃u,RelV v u∧Nt X.env s.heap m x u
 cell:∀x c,X.env.cells.lookup x=some c→∃v,s.heap.IsCell c v
 free:H X.env.locals=none
 freeC:∀x c,X.env.cells.lookup x=some c→H c=none
 pin:∀p∈X.pn++pins,s.heap.get? p.1=some p.2∧H p.1=none∧p.1≠X.env.locals∧p.1 ∉ X.fs∧∀v,p.2.data≠ .cell v
 hok:HOk X.prog X.w H s.heap
 len:σ.length=X.N.length
section
variable{X:Cx}{σ:List (Option V)}{H H':Hp}{h':Heap}
theorem Cx.Ok.nofr(ok:X.Ok){o:Obj}(e:X.base.get? b=some o):b ∉ X.fs:=λhb=>by have:=(ok.funs.mem hb).1;rw[e] at this;cases this
theorem Inv.bs(I:Inv X pins σ H s):∀b o,X.base.get? b=some o→s.heap.get? b=some o∧H b=none:=λb o e=>
 ⟨I.base.keep b o (I.ok.bs b o e).1 (I.ok.bs b o e).2 (I.ok.nofr e) (I.ok.noex b o e),I.base.free b o (I.ok.bs b o e).1 (I.ok.bs b o e).2 (I.ok.noex b o e)⟩
theorem Inv.bk(I:Inv X pins σ H s):∀b o,X.base.get? b=some o→s.heap.get? b=some o:=λb o e=>(I.bs b o e).1
theorem Inv.mod(I:Inv X pins σ H s):Mod X.K X.mg X.base:=I.ok.mod
theorem Inv.kIn(I:Inv X pins σ H s):X.K.In s.heap:=I.ok.mod.kin.keeps I.bk
theorem Inv.lt(I:Inv X pins σ H s):X.env.locals<s.heap.objs.size:=let⟨_,hn,_⟩:=I.loc;hn.lt
theorem Inv.sz(I:Inv X pins σ H s):X.s₀.heap.objs.size≤s.heap.objs.size:=AV I.ok.above (AQ I.lt)
theorem Inv.nofs(I:Inv X pins σ H s)(h:s.heap.objs.size≤a):a ∉ X.fs:=λhb=>by obtain⟨_,o,ho,_⟩:=I.ok.funs.mem hb;exact absurd (A0 (Aj ho) (AV I.sz h)) (Bw _)
theorem Inv.cne(I:Inv X pins σ H s):∀x c,X.env.cells.lookup x=some c→c≠X.env.locals:=λx c e z=>by obtain⟨v,o,ho,hd⟩:=I.cell x c e;obtain⟨m,⟨o',es,ep,ho',hd',_⟩,_⟩:=I.loc;rw[z,ho'] at ho;cases ho;rw[hd'] at hd;cases hd
theorem Inv.funs(I:Inv X pins σ H s):s.heap.FunFrames X.base X.outer:=by
 have all:∀(l:List Env),(∀b∈Hi l,b∈X.fs)→X.s₀.heap.FunFrames X.base l→s.heap.FunFrames X.base l:=by
  intro l
  induction l with
  | nil=>intro _ _;trivial
  | cons env r ih=> intro hs hl;obtain⟨hk,⟨L,o,hf,hn,ho,hd⟩,hr⟩:=hl;have hL:L∈X.fs:=hs L (by unfold Hi;rw[C5,hf];exact A6);obtain⟨sl,e⟩:=I.base.slot L o ho (I.ok.frf L hL) hL λz=>I.ok.exfs L z hL;exact⟨hk,⟨L,_,hf,hn,e,hd⟩,ih (λb hb=>hs b (by unfold Hi;rw[C5,hf];exact A1 _ hb)) hr⟩
 exact all X.outer (λ_ hb=>hb) I.ok.funs
theorem Inv.stack(I:Inv X pins σ H s):s.heap.FunFrames X.base X.stack:=by
 rcases I.ok.stk with e | ⟨e,hf⟩
 · rw[e];exact I.funs
 · rw[e];obtain⟨m,hn,_⟩:=I.loc;refine .cons (by rw[I.ok.kind];decide) hf hn ?_ I.funs;exact Heap.get?_none_of_le (AV I.ok.bsz I.ok.above)
theorem Inv.stkSub(I:Inv X pins σ H s):∀b∈Hi X.stack,b∈X.env.locals::X.fs:=λb hb=>by
 rcases I.ok.stk with e | ⟨e,hf⟩
 · rw[e] at hb;exact A1 _ hb
 · rw[e] at hb;unfold Hi at hb;rw[C5,hf] at hb;exact hb
theorem Inv.stkFree(I:Inv X pins σ H s):∀b∈Hi X.stack,H b=none:=λb hb=>by
 rcases Aq.mp (I.stkSub b hb) with e | hb
 · rw[e];exact I.free
 · obtain⟨_,o,ho,_⟩:=I.ok.funs.mem hb;exact I.base.free b o ho (I.ok.frf b hb) λz=>I.ok.exfs b z hb
theorem Inv.step{g':Array GenState}{t':Nat}{d':Drawn}{ch:List Addr}(I:Inv X pins σ H s)
 (hch:∀b∈ch,(b∈X.ex∨X.s₀.heap.objs.size≤b)∧b≠X.env.locals∧(∀x c,X.env.cells.lookup x=some c→c≠b)∧∀p∈X.pn++pins,p.1≠b)
 (keep:∀b o,b≠X.env.locals→b ∉ X.fs→b ∉ ch→s.heap.get? b=some o→H b=none→h'.get? b=some o)
 (slot:∀b o,b≠X.env.locals→b∈X.fs→b ∉ ch→s.heap.get? b=some o→H b=none→∃sl,h'.get? b=some {o with slots:=sl}) (free:∀b o,b ∉ ch→s.heap.get? b=some o→H b=none→H' b=none)
 (there:∀b o,b ∉ ch→s.heap.get? b=some o→∃o',h'.get? b=some o')
 (tups:∀b xs,H b=some (.tup xs)→H' b=some (.tup xs)) (frzs:∀b o u,H b=some (.frz o u)→H' b=some (.frz o u)) (tbls:∀b ps,H b=some (.tbl ps)→∃more,H' b=some (.tbl (ps++more)))
 (ns:∀m,s.heap.Ns X.env.locals m→h'.Ns X.env.locals m) (hok:HOk X.prog X.w H' h') (hg:AllBare g'):
 Inv X pins σ H' {s with heap:=h',gens:=g',drawn:=d',toks:=t'}:=by
 have neL:∀b o,X.s₀.heap.get? b=some o→b≠X.env.locals:=λb o e=>Au (A0 (Aj e) I.ok.above);have neC:∀b o,X.s₀.heap.get? b=some o→b ∉ X.ex→b ∉ ch:=λb o e hx hb=>by
  rcases(hch b hb).1 with z | z
  · exact hx z
  · exact absurd (A0 (Aj e) z) (Bw _)
 have cellK:∀x c,X.env.cells.lookup x=some c→∀v,s.heap.IsCell c v→h'.IsCell c v:=λx c e v ⟨o,ho,hd⟩=>by
  have nch:c ∉ ch:=λz=>(hch c z).2.2.1 x c e rfl;by_cases hc:c∈X.fs
  · obtain⟨sl,q⟩:=slot c o (I.cne x c e) hc nch ho (I.freeC x c e);exact⟨_,q,hd⟩
  · exact⟨o,keep c o (I.cne x c e) hc nch ho (I.freeC x c e),hd⟩
 refine⟨I.ok,I.os,hg,⟨λb o e n hb hx=>?_,λb o e n hb hx=>?_,λb o e n hx=>?_,λb o e hx=>?_,λb xs e=>tups b xs (I.base.tups b xs e),λb o xs e=>frzs b o xs (I.base.frzs b o xs e),λb ps e=>?_⟩,?_,λx c e=>?_,?_,λx c e=>?_,λp hp=>?_,hok,I.len⟩
 · exact keep b o (neL b o e) hb (neC b o e hx) (I.base.keep b o e n hb hx) (I.base.free b o e n hx)
 · obtain⟨sl,e1⟩:=I.base.slot b o e n hb hx;obtain⟨sl',e2⟩:=slot b _ (neL b o e) hb (neC b o e hx) e1 (I.base.free b o e n hx);exact⟨sl',e2⟩
 · obtain⟨o',e1⟩:=I.base.there b o e hx;exact free b o' (neC b o e hx) e1 (I.base.free b o e n hx)
 · obtain⟨o',e1⟩:=I.base.there b o e hx;exact there b o' (neC b o e hx) e1
 · obtain⟨m1,e1⟩:=I.base.tbls b ps e;obtain⟨m2,e2⟩:=tbls b _ e1;exact⟨m1++m2,by rw[e2,Array.append_assoc]⟩
 · obtain⟨m,hn,hl⟩:=I.loc;refine⟨m,ns m hn,λi x v e1 e2 e3=>?_⟩;obtain⟨u,r,l⟩:=hl i x v e1 e2 e3;refine⟨u,r,?_⟩;rcases l with l | ⟨k,c,e,z⟩
   · exact .inl l
   · exact .inr ⟨k,c,e,cellK x c e _ z⟩
 · obtain⟨v,z⟩:=I.cell x c e;exact⟨v,cellK x c e v z⟩
 · obtain⟨m,⟨o,_,_,ho,_⟩,_⟩:=I.loc;exact free _ o (λz=>(hch _ z).2.1 rfl) ho I.free
 · obtain⟨v,o,ho,hd⟩:=I.cell x c e;exact free c o (λz=>(hch c z).2.2.1 x c e rfl) ho (I.freeC x c e)
 · obtain⟨e,n,ne,nf,d⟩:=I.pin p hp;have nch:p.1 ∉ ch:=λz=>(hch p.1 z).2.2.2 p hp rfl;exact⟨keep p.1 p.2 ne nf nch e n,free p.1 p.2 nch e n,ne,nf,d⟩
theorem Inv.un{t':Nat}(I:Inv X pins σ H s)(u:Un X.fs [] H H' s.heap h')(hok:HOk X.prog X.w H' h'):Inv X pins σ H' {s with heap:=h',toks:=t'}:=by obtain⟨m,⟨o,es,ep,ho,r⟩,_⟩:=id I.loc;obtain⟨sl,hL⟩:=u.any ho I.free (by simp);exact I.step (g':=s.gens) (d':=s.drawn) (ch:=[]) (λ_ z=>nomatch z) (λb o _ hb _ e n=>u.keep b o e n hb (by simp)) (λb o _ hb _ e n=>u.slot b o e n hb (by simp)) (λb o _ e n=>u.free b o e n (by simp)) (λb o _ e=>u.there b o e (by simp)) u.tups u.frzs u.tbls (λm' hm=>by obtain⟨o',es',ep',ho',r'⟩:=hm;rw[ho] at ho';cases ho';exact⟨_,es',ep',hL,r'⟩) hok I.bare
theorem Inv.call{g':Array GenState}{t':Nat}{d':Drawn}{ch:List Addr}(I:Inv X pins σ H s)(u:Un (Hi X.stack) ch H H' s.heap h')(hok:HOk X.prog X.w H' h')(hg:AllBare g')
 (hch:∀b∈ch,(b∈X.ex∨X.s₀.heap.objs.size≤b)∧b≠X.env.locals∧(∀x c,X.env.cells.lookup x=some c→c≠b)∧∀p∈X.pn++pins,p.1≠b):
 Inv X pins σ H' {s with heap:=h',gens:=g',drawn:=d',toks:=t'}:=by
 obtain⟨m,⟨o,es,ep,ho,r⟩,_⟩:=id I.loc;obtain⟨sl,hL⟩:=u.any ho I.free λz=>(hch _ z).2.1 rfl;exact I.step (ch:=ch) hch (λb o hL hb hc e n=>u.keep b o e n (λz=>(Aq.mp (I.stkSub b z)).elim hL hb) hc) (λb o _ _ hc e n=>u.any e n hc) (λb o hc e n=>u.free b o e n hc) (λb o hc e=>u.there b o e hc) u.tups u.frzs u.tbls (λm' hm=>by obtain⟨o',es',ep',ho',r'⟩:=hm;rw[ho] at ho';cases ho';exact⟨_,es',ep',hL,r'⟩) hok hg
theorem Inv.turned{t':Nat}{it:Addr}(I:Inv X pins σ H s)(k:∀b o,b≠it→s.heap.get? b=some o→h'.get? b=some o)(hn:H it=none)(hL:it≠X.env.locals)
 (h1:it∈X.ex∨X.s₀.heap.objs.size≤it) (h2:∀x c,X.env.cells.lookup x=some c→c≠it) (h3:∀p∈X.pn++pins,p.1≠it):Inv X pins σ H {s with heap:=h',toks:=t'}:=by
 have nit:∀b u,H b=some u→b≠it:=λb u e z=>by rw[z,hn] at e;cases e
 refine I.step (g':=s.gens) (d':=s.drawn) (ch:=[it]) (λb hb=>?_) (λb o _ _ hc e _=>k b o (λz=>hc (by simp[z])) e) (λb o _ _ hc e _=>⟨o.slots,k b o (λz=>hc (by simp[z])) e⟩) (λ_ _ _ _ n=>n)
  (λb o hc e=>⟨o,k b o (λz=>hc (by simp[z])) e⟩) (λ_ _ e=>e) (λ_ _ _ e=>e) (λb ps e=>⟨#[],by rw[e];simp⟩) (λm hm=>?_) (λb u e=>?_) I.bare
 · have e:b=it:=by simpa using hb
   subst e;exact⟨h1,hL,h2,h3⟩
 · obtain⟨o,es,ep,ho,r⟩:=hm;exact⟨o,es,ep,k _ o (Ne.symm hL) ho,r⟩
 · refine(I.hok b u e).stay (λc v hc q=>k c v ?_ q) (λ_ q=>q) λ_ _ q=>q;rcases hc with z | z
   · rw[z];exact nit b u e
   · exact nit c _ z
theorem Inv.tok(I:Inv X pins σ H s)(t:Nat):Inv X pins σ H {s with toks:=t}:=I.un (h':=s.heap) (t':=t) Un.refl I.hok
theorem Inv.kept{t':Nat}(I:Inv X pins σ H s)(k:∀b u,s.heap.get? b=some u→h'.get? b=some u):Inv X pins σ H {s with heap:=h',toks:=t'}:=I.un (Un.kept k) (I.hok.kept k)
theorem Inv.laid{o:HO}{t':Nat}(I:Inv X pins σ H s)(k:∀b u,s.heap.get? b=some u→h'.get? b=some u)(hp:s.heap.objs.size≤a)(new:ObjOk X.prog X.w (EO H a o) h' a o):
 Inv X pins σ (EO H a o) {s with heap:=h',toks:=t'}:=I.un (Un.laid k hp (I.hok.fresh hp)) (I.hok.laid k hp new)
theorem Inv.write{x e:Addr}{o:HO}{t':Nat}(I:Inv X pins σ H s)(mu:L3 (H x))(he:e=x∨H e=some (.own x))(k:∀b u,b≠e→s.heap.get? b=some u→h'.get? b=some u)(heo:∃u,h'.get? e=some u)
 (new:ObjOk X.prog X.w (EO H x o) h' x o):Inv X pins σ (EO H x o) {s with heap:=h',toks:=t'}:=I.un (Un.write mu he k heo) (I.hok.write mu he k heo new)
theorem Inv.pins_of{pins':List (Addr×Obj)}(I:Inv X pins σ H s)(h:∀p∈pins',s.heap.get? p.1=some p.2∧H p.1=none∧p.1≠X.env.locals∧p.1 ∉ X.fs∧∀v,p.2.data≠ .cell v):Inv X pins' σ H s:=
 ⟨I.ok,I.os,I.bare,I.base,I.loc,I.cell,I.free,I.freeC,λp hp=>(AC.mp hp).elim (λz=>I.pin p (D3 _ z)) (h p),I.hok,I.len⟩
theorem O2{N:List Str}(hN:N.Nodup){j:Nat}{x:Str}(a:N[i]?=some x)(b:N[j]?=some x):i=j:=by obtain⟨h1,e1⟩:=Az.mp a;obtain⟨h2,e2⟩:=Az.mp b;exact(List.getElem_inj hN).mp (e1.trans e2.symm)
theorem RZ{M:Model}{A:Be}{E:Value→Shared→Prop}{x:Str}{v:V}{Q:Unit→Shared→Prop}(I:Inv X pins σ H s)(hN:X.N.Nodup)(hi:X.N[i]?=some x)(hx:L4 X.env.scope x)(r:RelV v u)
 (h:∀s',Inv X pins (σ.set i (some v)) H s'→(∃a,CU a s.heap s'.heap∧(a=X.env.locals∨X.env.cells.lookup x=some a))→Q () s') (hf:X.fn x=true∨X.env.scope.names.lookup x=some .local:=by first | exact .inl rfl | exact .inr rfl | assumption):wpAny M A (storeName X.env x u) Q E s:=by
 obtain⟨m,hn,hl⟩:=id I.loc;have hcls:(X.env.scope.kind== .class || (X.env.scope.kind== .module && X.env.locals !=X.env.globals))=false:=by rw[I.ok.kind];rfl
 have hiσ:i<σ.length:=by rw[I.len];exact(Az.mp hi).1
 have cne:=I.cne;have tracked:∀{a:Addr}{h':Heap},(∃o,s.heap.get? a=some o∧H a=none)→CU a s.heap h'→HOk X.prog X.w H h':=λ{a h'}ha hs b ob e=>by
  obtain⟨_,_,hfree⟩:=ha;refine(I.hok b ob e).stay (λc w' hc q=>(hs.2 c ?_).trans q) (λ_ q=>q) λ_ _ q=>q;rintro rfl;rcases hc with rfl | hc
  · rw[hfree] at e;cases e
  · rw[hfree] at hc;cases hc
 rcases hx with hk | hk
 · refine wpAny_storeName_local hk hn (λh' hn' hs=>?_) hcls;obtain⟨oL,_,_,hoL,_⟩:=id hn;refine h _ ⟨I.ok,I.os,I.bare,⟨λb o e n hb hx=>?_,λb o e n hb hx=>?_,I.base.free,λb o e hx=>?_,I.base.tups,I.base.frzs,I.base.tbls⟩,⟨_,hn',λj y v' e1 e2 e3=>?_⟩,λy c e=>?_,I.free,I.freeC,λp hp=>?_,tracked ⟨oL,hoL,I.free⟩ hs,by simpa using I.len⟩ ⟨_,hs,.inl rfl⟩
   · exact(hs.2 b (Au (A0 (Aj e) I.ok.above))).trans (I.base.keep b o e n hb hx)
   · obtain⟨sl,e1⟩:=I.base.slot b o e n hb hx;exact⟨sl,(hs.2 b (Au (A0 (Aj e) I.ok.above))).trans e1⟩
   · obtain⟨o',e1⟩:=I.base.there b o e hx;exact⟨o',(hs.2 b (Au (A0 (Aj e) I.ok.above))).trans e1⟩
   · by_cases hj:j=i
     · subst hj;rw[hi] at e1;cases e1;rw[Dm hiσ] at e2;cases e2;exact⟨u,r,.inl ⟨hk,by simp⟩⟩
     · rw[D4 (Ne.symm hj)] at e2;obtain⟨u',r',q⟩:=hl j y v' e1 e2 e3;refine⟨u',r',?_⟩;rcases q with⟨k,e⟩ | ⟨k,c,e,z⟩
       · refine .inl ⟨k,?_⟩;have:y≠x:=λe=>hj (O2 hN e1 (e ▸ hi));simp[this,e]
       · exact .inr ⟨k,c,e,z.sameBut hs (cne y c e)⟩
   · obtain⟨w',z⟩:=I.cell y c e;exact⟨w',z.sameBut hs (cne y c e)⟩
   · obtain⟨e,n,ne,nf,d⟩:=I.pin p hp;exact⟨(hs.2 p.1 ne).trans e,n,ne,nf,d⟩
 · have hfn:X.fn x=true:=by
    rcases hf with z | z
    · exact z
    · rw[z] at hk;cases hk
   obtain⟨c,hc⟩:=I.ok.has x (.inl hk);obtain⟨w',z⟩:=I.cell x c hc;refine wpAny_storeName_cell I.ok.kind hk hc z (λh' hc' hs=>?_);obtain⟨oc,hoc,hocd⟩:=id z;refine h {s with heap:=h'} ⟨I.ok,I.os,I.bare,⟨λb o e n hb hx=>?_,λb o e n hb hx=>?_,I.base.free,λb o e hx=>?_,I.base.tups,I.base.frzs,I.base.tbls⟩,⟨m,hn.sameBut hs (Ne.symm (cne x c hc)),λj y v' e1 e2 e3=>?_⟩,λy c' e=>?_,I.free,I.freeC,λp hp=>?_,tracked ⟨oc,hoc,I.freeC x c hc⟩ hs,by simpa using I.len⟩ ⟨c,hs,.inr hc⟩
   · exact(hs.2 b (Au (A0 (Aj e) (I.ok.cab x c hfn hc)))).trans (I.base.keep b o e n hb hx)
   · obtain⟨sl,e1⟩:=I.base.slot b o e n hb hx;exact⟨sl,(hs.2 b (Au (A0 (Aj e) (I.ok.cab x c hfn hc)))).trans e1⟩
   · obtain⟨o',e1⟩:=I.base.there b o e hx;exact⟨o',(hs.2 b (Au (A0 (Aj e) (I.ok.cab x c hfn hc)))).trans e1⟩
   · by_cases hj:j=i
     · subst hj;rw[hi] at e1;cases e1;rw[Dm hiσ] at e2;cases e2;exact⟨u,r,.inr ⟨.inl hk,c,hc,hc'⟩⟩
     · rw[D4 (Ne.symm hj)] at e2;obtain⟨u',r',q⟩:=hl j y v' e1 e2 e3;refine⟨u',r',?_⟩;rcases q with q | ⟨k,c',e,z'⟩
       · exact .inl q
       · refine .inr ⟨k,c',e,z'.sameBut hs ?_⟩;rintro rfl;exact hj (O2 hN e1 (I.ok.inj _ _ _ e hc ▸ hi))
   · by_cases hcc:c'=c
     · subst hcc;exact⟨_,hc'⟩
     · obtain⟨w2,z2⟩:=I.cell y c' e;exact⟨w2,z2.sameBut hs hcc⟩
   · obtain⟨e,n,ne,nf,d⟩:=I.pin p hp;refine⟨(hs.2 p.1 ?_).trans e,n,ne,nf,d⟩;intro q;rw[q,hoc] at e;have q':oc=p.2:=A2 e;exact d w' (by rw[←q'];exact hocd)
theorem O7{M:Model}{A:Be}{E:Value→Shared→Prop}{x:Str}{v:V}{Q:Unit→Shared→Prop}(I:Inv X pins σ H s)(hN:X.N.Nodup)(hi:X.N[i]?=some x)(hx:L4 X.env.scope x)(r:RelV v u)
 (h:∀s',Inv X pins (σ.set i (some v)) H s'→Q () s') (hf:X.fn x=true∨X.env.scope.names.lookup x=some .local:=by first | exact .inl rfl | exact .inr rfl | assumption):wpAny M A (storeName X.env x u) Q E s:=
 RZ I hN hi hx r (λs' I' _=>h s' I') hf
theorem Inv.call'{s':Shared}{ch:List Addr}(I:Inv X pins σ H s)(ho:s'.os=s.os)(u:Un (Hi X.stack) ch H H' s.heap s'.heap)(hok:HOk X.prog X.w H' s'.heap)(hg:AllBare s'.gens)
 (hch:∀b∈ch,(b∈X.ex∨X.s₀.heap.objs.size≤b)∧b≠X.env.locals∧(∀x c,X.env.cells.lookup x=some c→c≠b)∧∀p∈X.pn++pins,p.1≠b):Inv X pins σ H' s':=by
 obtain⟨h',g',d',t',o'⟩:=s';have e:o'=s.os:=ho;subst e;exact I.call (g':=g') (t':=t') (d':=d') u hok hg hch
end
abbrev XK:=Value→Option Addr→Hp→Prop
abbrev St:=List (Option V)
abbrev VK:=V→Hp→Prop
abbrev TE:=St→Hp→VK→Prop
abbrev TT:=St→Hp→(Bool→Hp→Prop)→Prop
abbrev TA:=St→Hp→(List V→Hp→Prop)→Prop
structure Ends where
 nx:St→Hp→Prop
 rt:VK
 bk:St→Hp→Prop:=λ_ _=>False
 ct:St→Hp→Prop:=λ_ _=>False
abbrev TS:=Ends→St→Hp→Prop
def EP(X:Cx)(pins:List (Addr×Obj))(σ:St)(Q:VK)(u:Value)(s':Shared):Prop:=∃v H',Inv X pins σ H' s'∧RelV v u∧Q v H'
def TP(X:Cx)(pins:List (Addr×Obj))(σ:St)(Q:Bool→Hp→Prop)(b:Bool)(s':Shared):Prop:=∃H',Inv X pins σ H' s'∧Q b H'
def AP(X:Cx)(pins:List (Addr×Obj))(σ:St)(Q:List V→Hp→Prop)(us:List Value)(s':Shared):Prop:=∃vs H',Inv X pins σ H' s'∧Vals vs us∧Q vs H'
def SP(X:Cx)(pins:List (Addr×Obj))(D:Ends)(f:Flow)(s':Shared):Prop:=
 match f with
 | .next=>∃σ' H',Inv X pins σ' H' s'∧D.nx σ' H'
 | .brk=>∃σ' H',Inv X pins σ' H' s'∧D.bk σ' H'
 | .cont=>∃σ' H',Inv X pins σ' H' s'∧D.ct σ' H'
 | .ret u=>∃v σ' H',Inv X pins σ' H' s'∧RelV v u∧D.rt v H'
def PE(X:Cx)(e:Expr)(t:TE):Prop:=
 ∀(pins:List (Addr×Obj))(s:Shared)(σ:St)(H:Hp)(Q:VK),Inv X pins σ H s→t σ H Q→wpAny (model X.prog X.w) X.A (eval e X.env) (EP X pins σ Q) X.xe s
def PT(X:Cx)(e:Expr)(t:TT):Prop:=
 ∀(pins:List (Addr×Obj))(s:Shared)(σ:St)(H:Hp)(Q:Bool→Hp→Prop),Inv X pins σ H s→t σ H Q→wpAny (model X.prog X.w) X.A (isTrue e X.env (eval e X.env)) (TP X pins σ Q) X.xe s
def PW(X:Cx)(e:Expr)(t:TT):Prop:=
 ∀(whole:Sem Value)(pins:List (Addr×Obj))(s:Shared)(σ:St)(H:Hp)(Q:Bool→Hp→Prop),Inv X pins σ H s→t σ H Q→wpAny (model X.prog X.w) X.A (isTrue e X.env whole) (TP X pins σ Q) X.xe s
theorem PW.pt{X:Cx}{t:TT}(h:PW X e t):PT X e t:=h _
def PA(X:Cx)(es:List Expr)(t:TA):Prop:=
 ∀(pos:Pos)(pins:List (Addr×Obj))(s:Shared)(σ:St)(H:Hp)(Q:List V→Hp→Prop),Inv X pins σ H s→t σ H Q→wpAny (model X.prog X.w) X.A (spliced (backTo pos (Av es X.env))) (AP X pins σ Q) X.xe s
def PS(X:Cx)(st:Stmt)(t:TS):Prop:=
 ∀(pins:List (Addr×Obj))(s:Shared)(σ:St)(H:Hp)(D:Ends),Inv X pins σ H s→t D σ H→wpAny (model X.prog X.w) X.A (exec st X.env) (SP X pins D) X.xe s
def PSs(X:Cx)(st:List Stmt)(t:TS):Prop:=
 ∀(pins:List (Addr×Obj))(s:Shared)(σ:St)(H:Hp)(D:Ends),Inv X pins σ H s→t D σ H→wpAny (model X.prog X.w) X.A (execs st X.env) (SP X pins D) X.xe s
theorem EY{α:Type}{t:Sem α}{Q Q':α→Shared→Prop}{M:Model}(h:wpAny M A t Q E s)(hQ:∀a s,Q a s→Q' a s):wpAny M A t Q' E s:=Br h hQ λ_ _ x=>x
section
variable{X:Cx}
def F6(i:Nat):TE:=λσ H Q=>∃v,σ[i]?=some (some v)∧Q v H
def tC(v:V):TE:=λ_ H Q=>Q v H
theorem P9{x:Str}(hN:X.N[i]?=some x)(hv:L1 X.env.scope x)(hd:(x==("__debug__":Str))=false:=by decide)(hcd:(x==("__classdict__":Str))=false:=by decide):PE X (.Name x pos) (F6 i):=by
 intro pins s σ H Q I h;obtain⟨v,e,h⟩:=h;obtain⟨m,hn,hl⟩:=I.loc;obtain⟨u,r,l⟩:=hl i x v hN e hv;have fin:EP X pins σ Q u s:=⟨v,H,I,r,h⟩;rcases l with⟨hk,hm⟩ | ⟨hk,c,hc,hcell⟩
 · exact wpAny_Name (wpAny_loadName_local I.ok.kind hk hn hm fin) hd
 · rcases hk with hk | hk
   · exact wpAny_Name (wpAny_loadName_cell I.ok.kind hk hc hcell fin) hd
   · exact wpAny_Name (wpAny_loadName_free I.ok.kind hk hc hcell fin hcd) hd
theorem EN{i j pos}:PE X (.Constant (.int i) j pos) (tC (.int i)):=λ_ _ _ H _ I h=>wpAny_Constant_int ⟨.int i,H,I.tok _,⟨_,rfl⟩,h⟩
theorem Fv{b j pos}:PE X (.Constant (.bool b) j pos) (tC (.bl b)):=λ_ _ _ H _ I h=>Constant_bool ⟨.bl b,H,I,rfl,h⟩
theorem Im{j pos}:PE X (.Constant .none j pos) (tC .non):=λ_ _ _ H _ I h=>Constant_none ⟨.non,H,I,rfl,h⟩
theorem Gm{x j pos}:PE X (.Constant (.str x) j pos) (tC (.str x)):=λ_ _ _ H _ I h=>Calls.Constant_str ⟨.str x,H,I.tok _,⟨_,rfl⟩,h⟩
def Gl(X:Cx)(x:Str):Prop:=X.env.kindOf x=some .globalImplicit
theorem Oe{E:Value→Shared→Prop}{σ:St}{H:Hp}{x:Str}{pos:Pos}{Q:Value→Shared→Prop}(I:Inv X pins σ H s)(hg:Gl X x)(hm:X.mg x=some u)(h:Q u s)
 (hd:(x==("__debug__":Str))=false:=by decide):wpAny (model X.prog X.w) X.A (eval (.Name x pos) X.env) Q E s:=
 CC I.ok.kind hg (Calls.loadGlobal_global (by rw[I.ok.glob];exact I.mod.glob.keeps I.bk) hm h) hd
theorem IF{E:Value→Shared→Prop}{σ:St}{H:Hp}{x:Str}{pos:Pos}{Q:Value→Shared→Prop}(I:Inv X pins σ H s)(hg:Gl X x)(hm:X.mg x=none)(hv:AA x=some u)(h:Q u s)
 (hn:x≠"__name__":=by decide) (hd:(x==("__debug__":Str))=false:=by decide):wpAny (model X.prog X.w) X.A (eval (.Name x pos) X.env) Q E s:=by
 obtain⟨mb,h1,h2⟩:=I.mod.blt;exact CC I.ok.kind hg (Calls.loadGlobal_builtin (by rw[I.ok.glob];exact I.mod.glob.keeps I.bk) hm (by rw[I.ok.blt];exact h1.keeps I.bk) ((h2 x hn).trans hv) h) hd
theorem LK{x:Str}{v:V}(hg:Gl X x)(hm:X.mg x=some u)(r:RelV v u)(hd:(x==("__debug__":Str))=false:=by decide):PE X (.Name x pos) (tC v):=
 λ_ _ _ H _ I h=>Oe I hg hm ⟨v,H,I,r,h⟩ hd
theorem FG{x:Str}{v:V}(hg:Gl X x)(hm:X.mg x=none)(hv:AA x=some u)(r:RelV v u)(hn:x≠"__name__":=by decide)(hd:(x==("__debug__":Str))=false:=by decide):PE X (.Name x pos) (tC v):=
 λ_ _ _ H _ I h=>IF I hg hm hv ⟨v,H,I,r,h⟩ hn hd
variable{a b:Expr}{ta tb:TE}
def PC(X:Cx)(op:CmpOp)(a b:Expr)(t:TE):Prop:=
 ∀(pins:List (Addr×Obj))(s:Shared)(σ:St)(H:Hp)(Q:VK),Inv X pins σ H s→t σ H Q→
  wpAny (model X.prog X.w) X.A (eval a X.env) (λv s₁=>wpAny (model X.prog X.w) X.A (eval b X.env) (λu s₂=>wpAny (model X.prog X.w) X.A (AK op v u) (EP X pins σ Q) X.xe s₂) X.xe s₁) X.xe s
theorem O1(b:Expr){op:CmpOp}(h:op≠ .In)(h2:op≠ .NotIn):behindInMarks op b=false:=by
 have e1:(op==CmpOp.In)=false:=by cases op<;>first | rfl | exact absurd rfl h
 have e2:(op==CmpOp.NotIn)=false:=by cases op<;>first | rfl | exact absurd rfl h2
 cases b<;>simp[behindInMarks,e1,e2]
def MG(ta:TE):TE:=λσ H Q=>ta σ H λx H1=>Q (.bl (decide (x= .non))) H1
def N2(ta:TE):TE:=λσ H Q=>ta σ H λx H1=>Q (.bl (!decide (x= .non))) H1
theorem RelV.none_iff{x:V}{v:Value}(r:RelV x v):(v==Value.none)=decide (x= .non):=by
 cases x with
 | non=>cases r;rfl
 | bl _=>cases r;rfl
 | int _=>obtain⟨t,rfl⟩:=r;rfl
 | str _=>obtain⟨t,rfl⟩:=r;rfl
 | byt _=>obtain⟨t,rfl⟩:=r;rfl
 | flt _=>obtain⟨t,rfl⟩:=r;rfl
 | ref _=>cases r;rfl
 | ty _=>cases r;rfl
theorem K8{j pos'}(ha:PE X a ta):PC X .Is a (.Constant .none j pos') (MG ta):=by intro pins s σ H Q I h;refine EY (ha pins s σ H _ I h) λv s1 ⟨x,H1,I1,r1,q1⟩=>?_;exact Constant_none (is_none_gen ⟨.bl _,H1,I1,by rw[r1.none_iff];rfl,q1⟩)
theorem KH{j pos'}(ha:PE X a ta):PC X .IsNot a (.Constant .none j pos') (N2 ta):=by intro pins s σ H Q I h;refine EY (ha pins s σ H _ I h) λv s1 ⟨x,H1,I1,r1,q1⟩=>?_;exact Constant_none (isnot_none_gen ⟨.bl _,H1,I1,by rw[r1.none_iff];rfl,q1⟩)
def tB(t:TE):TT:=λσ H Q=>t σ H λx H1=>∃c,x= .bl c∧Q c H1
theorem K9{op:CmpOp}{t:TE}(h:PC X op a b t)(h1:behindInMarks op b=false:=by first | exact O1 _ (by decide) (by decide) | rfl):PE X (.Compare a [op] [b] pos) t:=λpins s σ H Q I hw=>wpAny_Compare1 (h pins s σ H Q I hw) h1
theorem KB{op:CmpOp}{t:TE}(h:PC X op a b t)(h1:behindInMarks op b=false:=by first | exact O1 _ (by decide) (by decide) | rfl):PT X (.Compare a [op] [b] pos) (tB t):=by intro pins s σ H Q I hw;refine wpAny_isTrue_Compare1 (EY (h pins s σ H _ I hw) λv s1 h1=>EY h1 λu s2 h2=>EY h2 λc s3 ⟨x,H1,I1,r1,q1⟩=>?_) h1;obtain⟨d,rfl,q⟩:=q1;cases r1;exact AM ⟨H1,I1,q⟩
theorem Fm{t:TE}(h:PE X e t)(he:∀whole,isTrue e X.env whole=(do let v ←whole;standAt e.pos;holding [v] (truthy v)):=by intro _;rfl):PT X e (tB t):=by intro pins s σ H Q I hw;refine isTrue_plain (EY (h pins s σ H _ I hw) λv s1 ⟨x,H1,I1,r1,q1⟩=>?_) (he _);obtain⟨d,rfl,q⟩:=q1;cases r1;exact AM ⟨H1,I1,q⟩
variable{tA tB':TT}{FM:List Expr}
def IT(t u:TT):TT:=λσ H Q=>t σ H λc H1=>if c=true then u σ H1 Q else Q false H1
def Pj(t u:TT):TT:=λσ H Q=>t σ H λc H1=>if c=true then Q true H1 else u σ H1 Q
def IP(t:TT):TT:=λσ H Q=>t σ H λc H1=>Q (!c) H1
theorem Ig(ha:PT X a tA):PW X (.BoolOp .And [a] pos) tA:=by
 intro wh pins s σ H Q I h;refine isTrue_and (EY (ha pins s σ H Q I h) λc s1 e=>?_);cases c with
 | true=>exact isTrue_and_nil e
 | false=>exact e
theorem Gf(ha:PT X a tA):PW X (.BoolOp .Or [a] pos) tA:=by
 intro wh pins s σ H Q I h;refine isTrue_or (EY (ha pins s σ H Q I h) λc s1 e=>?_);cases c with
 | false=>exact isTrue_or_nil e
 | true=>exact e
theorem G_(ha:PT X a tA)(hb:PW X (.BoolOp .And (b::FM) pos) tB'):PW X (.BoolOp .And (a::b::FM) pos) (IT tA tB'):=by
 intro wh pins s σ H Q I h;refine isTrue_and (EY (ha pins s σ H _ I h) λc s1 ⟨H1,I1,q1⟩=>?_);cases c with
 | true=>exact hb wh pins s1 σ H1 Q I1 q1
 | false=>exact⟨H1,I1,q1⟩
theorem FJ(ha:PT X a tA)(hb:PW X (.BoolOp .Or (b::FM) pos) tB'):PW X (.BoolOp .Or (a::b::FM) pos) (Pj tA tB'):=by
 intro wh pins s σ H Q I h;refine isTrue_or (EY (ha pins s σ H _ I h) λc s1 ⟨H1,I1,q1⟩=>?_);cases c with
 | true=>exact⟨H1,I1,q1⟩
 | false=>exact hb wh pins s1 σ H1 Q I1 q1
theorem Fp(ha:PT X a tA):PT X (.UnaryOp .Not a pos) (IP tA):=by intro pins s σ H Q I h;exact isTrue_not (ha pins s σ H (λc H1=>Q (!c) H1) I h)
def Nz(ta tb:TE):TE:=λσ H Q=>ta σ H λx H1=>∃c,x= .bl c∧if c=true then tb σ H1 Q else Q (.bl false) H1
def MF(ta tb:TE):TE:=λσ H Q=>ta σ H λx H1=>∃c,x= .bl c∧if c=true then Q (.bl true) H1 else tb σ H1 Q
def Q1(ta:TE):TE:=λσ H Q=>ta σ H λx H1=>∃c,x= .bl c∧Q (.bl (!c)) H1
theorem Gr{op}{t:TE}(h:PE X a t):PE X (.BoolOp op [a] pos) t:=λpins s σ H Q I hw=>BoolOp_one (h pins s σ H Q I hw)
theorem Ge(ha:PE X a ta)(hb:PE X (.BoolOp .And (b::FM) pos) tb):PE X (.BoolOp .And (a::b::FM) pos) (Nz ta tb):=by
 intro pins s σ H Q I h;refine BoolOp_and (EY (ha pins s σ H _ I h) λv s1 ⟨x,H1,I1,r1,q1⟩=>?_);obtain⟨c,rfl,q1⟩:=q1;cases r1;refine AM ?_;cases c with
 | true=>exact hb pins s1 σ H1 Q I1 q1
 | false=>exact⟨.bl false,H1,I1,rfl,q1⟩
theorem JB(ha:PE X a ta)(hb:PE X (.BoolOp .Or (b::FM) pos) tb):PE X (.BoolOp .Or (a::b::FM) pos) (MF ta tb):=by
 intro pins s σ H Q I h;refine BoolOp_or (EY (ha pins s σ H _ I h) λv s1 ⟨x,H1,I1,r1,q1⟩=>?_);obtain⟨c,rfl,q1⟩:=q1;cases r1;refine AM ?_;cases c with
 | false=>exact hb pins s1 σ H1 Q I1 q1
 | true=>exact⟨.bl true,H1,I1,rfl,q1⟩
theorem NC(ha:PE X a ta):PE X (.UnaryOp .Not a pos) (Q1 ta):=by intro pins s σ H Q I h;refine UnaryOp_ (EY (ha pins s σ H _ I h) λv s1 ⟨x,H1,I1,r1,q1⟩=>?_);obtain⟨c,rfl,q1⟩:=q1;cases r1;exact not_of (AM ⟨.bl (!c),H1,I1,rfl,q1⟩)
end
def SqL(K:Ad)(H:Hp)(a:Addr)(xs:List V):Prop:=
 Rd H a (.lst xs)∨
  ∃(o:Obj)(its:Array Value)(n:Nat),K.lookup a=some o∧o.cls= .type "list"∧o.dict=none∧o.data= .seq its n∧its.size≤Ak∧Vals xs its.toList
def SqT(K:Ad)(H:Hp)(a:Addr)(xs:List V):Prop:=
 Rd H a (.tup xs)∨
  ∃(o:Obj)(its:Array Value)(n:Nat),K.lookup a=some o∧o.cls= .type "tuple"∧o.data= .seq its n∧its.size≤Ak∧Vals xs its.toList
def Nn:Value→Option V
 | .none=>some .non
 | .bool b=>some (.bl b)
 | .int i _=>some (.int i)
 | .str x _=>some (.str x)
 | .bytes b _=>some (.byt b)
 | .float b _=>some (.flt b)
 | .ref a=>some (.ref a)
 | .type n=>some (.ty n)
 | _=>none
theorem RelV.abs{x:V}(r:RelV x u):Nn u=some x:=by
 cases x with
 | non=>cases r;rfl
 | bl _=>cases r;rfl
 | int _=>obtain⟨t,rfl⟩:=r;rfl
 | str _=>obtain⟨t,rfl⟩:=r;rfl
 | byt _=>obtain⟨t,rfl⟩:=r;rfl
 | flt _=>obtain⟨t,rfl⟩:=r;rfl
 | ref _=>cases r;rfl
 | ty _=>cases r;rfl
theorem RelV.inj{x y:V}(r:RelV x u)(q:RelV y u):x=y:=A2 (r.abs.symm.trans q.abs)
theorem l0{α:Type}{P:List α→Prop}(h:P []):∀us:List α,us.length=0→P us
 | [],_=>h
theorem lS{α:Type}{n:Nat}{P:List α→Prop}(h:∀a us,us.length=n→P (a::us)):∀us:List α,us.length=n+1→P us
 | a::us,e=>h a us (Nat.succ.inj e)
theorem Vals.inj:∀{xs ys:List V}{us:List Value},Vals xs us→Vals ys us→xs=ys
 | _,_,_,.nil,.nil=>rfl
 | _,_,_,.cons r t,.cons r' t'=>by rw[r.inj r',Vals.inj t t']
section
variable{X:Cx}{σ:St}{H:Hp}{xs ys:List V}
theorem SqL.of(h:H a=some (.lst xs)):SqL K H a xs:= .inl (.inl h)
theorem SqT.of(h:H a=some (.tup xs)):SqT K H a xs:= .inl (.inl h)
theorem Inv.list(I:Inv X pins σ H s)(h:SqL X.K H a xs):∃its:List Value,Vals xs its∧PlainL s.heap a its.toArray∧xs.length≤Ak:=by
 rcases h with h | ⟨o,its,n,hk,hc,hd,hs,hz,r⟩
 · obtain⟨z,its,n,r,e⟩:=h.ok I.hok;exact⟨its,r,⟨_,n,e,rfl,rfl,rfl⟩,z⟩
 · refine⟨its.toList,r,⟨o,n,I.kIn a o hk,hc,hd,by simpa using hs⟩,?_⟩;have e:=r.length;simp only[A3] at e;omega
theorem Inv.tuple(I:Inv X pins σ H s)(h:SqT X.K H a xs):∃its:List Value,Vals xs its∧IsTup s.heap a its.toArray∧xs.length≤Ak:=by
 rcases h with h | ⟨o,its,n,hk,hc,hs,hz,r⟩
 · obtain⟨z,its,r,p⟩:=h.ok I.hok;exact⟨its,r,p.tup,z⟩
 · refine⟨its.toList,r,⟨o,I.kIn a o hk,hc,n,by simpa using hs⟩,?_⟩;have e:=r.length;simp only[A3] at e;omega
theorem Inv.list_inj(I:Inv X pins σ H s)(h:SqL X.K H a xs)(h':SqL X.K H a ys):xs=ys:=by
 obtain⟨its,r,⟨o,n,e,_,_,d⟩,_⟩:=I.list h;obtain⟨its',r',⟨o',n',e',_,_,d'⟩,_⟩:=I.list h';rw[e] at e';cases e';rw[d] at d';injection d' with d1 _;have:its=its':=by simpa using congrArg Array.toList d1
 subst this;exact r.inj r'
theorem Inv.tuple_inj(I:Inv X pins σ H s)(h:SqT X.K H a xs)(h':SqT X.K H a ys):xs=ys:=by
 obtain⟨its,r,⟨o,e,_,n,d⟩,_⟩:=I.tuple h;obtain⟨its',r',⟨o',e',_,n',d'⟩,_⟩:=I.tuple h';rw[e] at e';cases e';rw[d] at d';injection d' with d1 _;have:its=its':=by simpa using congrArg Array.toList d1
 subst this;exact r.inj r'
end
abbrev Cx.wish(X:Cx)(E:Value→Shared→Prop):Cx:={X with xe:=E}
abbrev Cx.nox(X:Cx):Cx:=X.wish λ_ _=>False
theorem Cx.Ok.wish{X:Cx}(ok:X.Ok)(E:Value→Shared→Prop):(X.wish E).Ok:=
 ⟨ok.mod,ok.kind,ok.glob,ok.blt,ok.above,ok.inj,ok.has,ok.cab,ok.hd,ok.frames,ok.stk,ok.exf,ok.bs,ok.bsz,ok.noex,ok.exfs,ok.funs,ok.frf⟩
theorem Cx.Ok.unwish{X:Cx}(ok:(X.wish E).Ok):X.Ok:=
 ⟨ok.mod,ok.kind,ok.glob,ok.blt,ok.above,ok.inj,ok.has,ok.cab,ok.hd,ok.frames,ok.stk,ok.exf,ok.bs,ok.bsz,ok.noex,ok.exfs,ok.funs,ok.frf⟩
section
variable{X:Cx}{σ:St}{H:Hp}
theorem Inv.wish(I:Inv X pins σ H s)(E:Value→Shared→Prop):Inv (X.wish E) pins σ H s:=⟨I.ok.wish E,I.os,I.bare,I.base,I.loc,I.cell,I.free,I.freeC,I.pin,I.hok,I.len⟩
theorem Inv.unwish(I:Inv (X.wish E) pins σ H s):Inv X pins σ H s:=⟨I.ok.unwish,I.os,I.bare,I.base,I.loc,I.cell,I.free,I.freeC,I.pin,I.hok,I.len⟩
theorem SP.unwish{D:Ends}{f:Flow}{s':Shared}(h:SP (X.wish E) pins D f s'):SP X pins D f s':=by
 cases f with
 | next=>obtain⟨σ',H',I,q⟩:=h;exact⟨σ',H',I.unwish,q⟩
 | brk=>obtain⟨σ',H',I,q⟩:=h;exact⟨σ',H',I.unwish,q⟩
 | cont=>obtain⟨σ',H',I,q⟩:=h;exact⟨σ',H',I.unwish,q⟩
 | ret u=>obtain⟨v,σ',H',I,r,q⟩:=h;exact⟨v,σ',H',I.unwish,r,q⟩
theorem PSs.nox{st:List Stmt}{t:TS}(h:PSs X.nox st t):PSs X st t:=λpins s σ H D I hw=> Br (h pins s σ H D (I.wish _) hw) (λ_ _ q=>q.unwish) λ_ _ z=>Bx z
end
section
variable{X:Cx}{st:Stmt}{FM:List Stmt}{t u:TS}{te:TE}
def N1:TS:=λD σ H=>D.nx σ H
def HL(t u:TS):TS:=λD σ H=>t {D with nx:=u D} σ H
theorem Fi:PSs X [] N1:=λ_ _ σ H _ I h=>Dg ⟨σ,H,I,h⟩
theorem EQ(h1:PS X st t)(h2:PSs X FM u):PSs X (st::FM) (HL t u):=by
 intro pins s σ H D I h;refine wpAny_execs_cons (EY (h1 pins s σ H {D with nx:=u D} I h) λf s1 q=>?_)
 cases f with
 | next=> obtain⟨σ',H',I',q⟩:=q;exact h2 pins s1 σ' H' D I' q
 | ret v=>exact q
 | brk=>exact q
 | cont=>exact q
theorem ES(h1:PS X st t):PSs X [st] t:=by
 intro pins s σ H D I h;refine wpAny_execs_cons (EY (h1 pins s σ H D I h) λf s1 q=>?_);cases f with
 | next=>exact Dg q
 | ret v=>exact q
 | brk=>exact q
 | cont=>exact q
theorem Inv.quiet{σ:St}{H:Hp}(I:Inv X pins σ H s):interactive X.env=false:=by simp[interactive,I.ok.kind]
def Q0(te:TE):TS:=λD σ H=>te σ H λ_ H1=>D.nx σ H1
theorem LN(he:PE X e te)(hs:swapsWith e none pos.line X.env=pure false:=by rfl):PS X (.Expr e pos) (Q0 te):=by intro pins s σ H D I h;exact wpAny_Expr_any (EY (he pins s σ H _ I h) λv s1 ⟨x,H1,I1,r1,q1⟩=>⟨σ,H1,I1,q1⟩) I.quiet hs
def HM(te:TE):TS:=λD σ H=>te σ H D.rt
theorem EV(he:PE X e te):PS X (.Return (some e) pos) (HM te):=by intro pins s σ H D I h;exact wpAny_Return_some (EY (he pins s σ H _ I h) λv s1 ⟨x,H1,I1,r1,q1⟩=>⟨x,σ,H1,I1,r1,q1⟩)
def IR(c:TT)(t u:TS):TS:=λD σ H=>c σ H λb H1=>if b=true then t D σ H1 else u D σ H1
theorem Fj{c:Expr}{a b:List Stmt}{tc:TT}(hc:PT X c tc)(ha:PSs X a t)(hb:PSs X b u):PS X (.If c a b pos) (IR tc t u):=by
 intro pins s σ H D I h;refine wpAny_If (EY (hc pins s σ H _ I h) λd s1 ⟨H1,I1,q1⟩=>?_);cases d with
 | true=>exact ha pins s1 σ H1 D I1 q1
 | false=>exact hb pins s1 σ H1 D I1 q1
end
abbrev TG:=V→St→Hp→(St→Hp→Prop)→Prop
abbrev Ix:=List V→St→Hp→(St→Hp→Prop)→Prop
def PG(X:Cx)(target:Expr)(t:TG):Prop:=
 ∀(pins:List (Addr×Obj))(s:Shared)(σ:St)(H:Hp)(v:V)(u:Value)(Q:St→Hp→Prop),Inv X pins σ H s→RelV v u→t v σ H Q→
  wpAny (model X.prog X.w) X.A (assign target X.env u) (λ_ s'=>∃σ' H',Inv X pins σ' H' s'∧Q σ' H') X.xe s
def Kv(X:Cx)(ts:List Expr)(t:Ix):Prop:=
 ∀(pins:List (Addr×Obj))(s:Shared)(σ:St)(H:Hp)(vs:List V)(us:List Value)(Q:St→Hp→Prop),Inv X pins σ H s→Vals vs us→t vs σ H Q→
  wpAny (model X.prog X.w) X.A (assignInOrder ((assignEach ts X.env).map (·.2)) us) (λ_ s'=>∃σ' H',Inv X pins σ' H' s'∧Q σ' H') X.xe s
abbrev Jb:=V→V→V→Hp→(Hp→Prop)→Prop
def Ku(X:Cx)(t:Jb):Prop:=
 ∀(pins:List (Addr×Obj))(s:Shared)(σ:St)(H:Hp)(o i v:V)(ov iv u:Value)(Q:Hp→Prop),Inv X pins σ H s→RelV o ov→RelV i iv→RelV v u→t o i v H Q→
  wpAny (model X.prog X.w) X.A (setItem ov iv u) (λ_ s'=>∃H',Inv X pins σ H' s'∧Q H') X.xe s
section
variable{X:Cx}
def Ky(i:Nat):TG:=λv σ H Q=>Q (σ.set i (some v)) H
theorem Fw{x:Str}(hN:X.N.Nodup)(hi:X.N[i]?=some x)(hx:L4 X.env.scope x)(hf:X.fn x=true∨X.env.scope.names.lookup x=some .local:=by first | exact .inl rfl | exact .inr rfl | assumption):PG X (.Name x pos) (Ky i):=by intro pins s σ H v u Q I r h;exact wpAny_assign_Name (O7 I hN hi hx r (λs' I'=>⟨_,H,I',h⟩) hf)
def Nl:Ix:=λvs σ H Q=>vs=[]∧Q σ H
def P1(t:TG)(u:Ix):Ix:=λvs σ H Q=>∃v r,vs=v::r∧t v σ H λσ' H'=>u r σ' H' Q
theorem Jo:Kv X [] Nl:=by intro pins s σ H vs us Q I r h;obtain⟨e,h⟩:=h;subst e;cases r;exact assignInOrder_nil ⟨σ,H,I,h⟩
theorem GH{es:List Expr}{t:TG}{u:Ix}(h1:PG X e t)(h2:Kv X es u)
 (hs:(assignEach (e::es) X.env).map (·.2)=assign e X.env::(assignEach es X.env).map (·.2):=by rfl):Kv X (e::es) (P1 t u):=by
 intro pins s σ H vs us Q I r h;obtain⟨v,vr,e1,h⟩:=h;subst e1;cases r with
 | cons r rr=> rw[hs];refine assignInOrder_cons (EY (h1 pins s σ H _ _ _ I r h) λ_ s1 ⟨σ1,H1,I1,q1⟩=>?_);exact h2 pins s1 σ1 H1 _ _ Q I1 rr q1
def Kp(K:Ad)(n:Nat)(t:Ix):TG:=λv σ H Q=>∃a xs,v= .ref a∧SqT K H a xs∧xs.length=n∧t xs σ H Q
theorem JG{es:List Expr}{k:Nat}{t:Ix}{n:Nat}(hc:X.calm=true)(h:Kv X es t)
 (hn:(assignEach es X.env).length=n:=by rfl) (hst:(assignEach es X.env).findIdx? (·.1)=none:=by rfl):PG X (.Tuple es k pos) (Kp X.K n t):=by
 intro pins s σ H v u Q I r hw;obtain⟨a,xs,e1,hq,hl,hw⟩:=hw;subst e1;cases r;obtain⟨its,rv,ht,hz⟩:=I.tuple hq;refine assign_Tuple_tuple (I.ok.hd hc) ht (by simp[hn,←hl,rv.length]) hst λh' hx=>?_;have I1:Inv X pins σ H {s with heap:=h'}:=I.kept (t':=s.toks) λb o e=>hx b o (Au (Aj e)) e
 exact h pins _ σ H xs _ Q I1 (by simpa using rv) hw
def Nk(to ti:TE)(t:Jb):TG:=λv σ H Q=>to σ H λo H1=>ti σ H1 λi H2=>t o i v H2 λH3=>Q σ H3
theorem KA{o i:Expr}{to ti:TE}{t:Jb}(ho:PE X o to)(hi:PE X i ti)(hs:Ku X t)
 (ha:∀v,assign (.Subscript o i pos) X.env v=(do
  let ov ←holding [v] (eval o X.env)
  let iv ←holding [v,ov] (eval i X.env)
  standAt pos
  holding [v,ov,iv] (setItem ov iv v)
  release [v,ov,iv] []):=by intro _;rfl):PG X (.Subscript o i pos) (Nk to ti t):=by
 intro pins s σ H v u Q I r h;rw[ha];refine Aa (BR (EY (ho pins s σ H _ I h) λov s1 ⟨x,H1,I1,r1,q1⟩=>?_));refine Aa (BR (EY (hi pins s1 σ H1 _ I1 q1) λiv s2 ⟨y,H2,I2,r2,q2⟩=>?_));refine Aa (wpAny_standAt (Aa (BR (EY (hs pins s2 σ H2 x y v ov iv u _ I2 r1 r2 r q2) λ_ s3 ⟨H3,I3,q3⟩=>?_))));exact wpAny_release ⟨σ,H3,I3,q3⟩
def IS(te:TE)(g:TG):TS:=λD σ H=>te σ H λx H1=>g x σ H1 D.nx
theorem II{tg:Expr}{te:TE}{g:TG}(he:PE X e te)(hg:PG X tg g)(hs:swapsWithSole [tg] e pos.line X.env=pure false:=by rfl)(hw:swappedStores [tg] e X.env=pure none:=by rfl)
 (h1:(assignEach [tg] X.env).map (·.2)=[assign tg X.env]:=by rfl):PS X (.Assign [tg] e pos) (IS te g):=by
 intro pins s σ H D I h;refine wpAny_Assign_stores (EY (he pins s σ H _ I h) λv s1 ⟨x,H1,I1,r1,q1⟩=>?_) hs hw;rw[h1];exact EY (hg pins s1 σ H1 x v _ I1 r1 q1) λ_ s2 q=>q
theorem Ff{x:Str}{te:TE}{pos':Pos}(hN:X.N.Nodup)(hi:X.N[i]?=some x)(hx:L4 X.env.scope x)(he:PE X e te)(hs:swapsWith e (some (.Name x pos')) pos.line X.env=pure false:=by rfl)(hf:X.fn x=true∨X.env.scope.names.lookup x=some .local:=by first | exact .inl rfl | exact .inr rfl | assumption):
 PS X (.Assign [.Name x pos'] e pos) (IS te (Ky i)):=by
 intro pins s σ H D I h;refine wpAny_Assign_Name (EY (he pins s σ H _ I h) λv s1 ⟨y,H1,I1,r1,q1⟩=>?_) hs;exact O7 I1 hN hi hx r1 (λs2 I2=>⟨_,H1,I2,q1⟩) hf
end
section
variable{X:Cx}
end
structure It where
 go:Nat→Hp→Prop
 yld:Nat→Hp→V→Hp→Prop
 stop:Nat→Hp→Prop
def FC(X:Cx)(pins:List (Addr×Obj))(H:Hp)(b:Addr):Prop:=
 H b=none∧b≠X.env.locals∧b ∉ X.fs∧(b∈X.ex∨X.s₀.heap.objs.size≤b)∧(∀x c,X.env.cells.lookup x=some c→c≠b)∧∀p∈X.pn++pins,p.1≠b
theorem Inv.fpOk{X:Cx}{σ:St}{H H':Hp}(I:Inv X pins σ H s)(hb:s.heap.objs.size≤b)(hn:H' b=none):FC X pins H' b:=by
 refine⟨hn,BB (A0 I.lt hb),I.nofs hb,.inr (AV I.sz hb),λx c e z=>?_,λp hp z=>?_⟩
 · obtain⟨v,q⟩:=I.cell x c e;exact absurd (A0 q.lt (by rw[z];exact hb)) (Bw _)
 · exact absurd (A0 (Aj (I.pin p hp).1) (by rw[z];exact hb)) (Bw _)
structure Turn(P:A_)(w:World)(K:Ad)(tg:Expr)(J:It)(fp:List Addr)(it:Addr)(tn:Nat→Heap→Prop):Prop where
 mem:it∈fp
 obj:∀i h,tn i h→∀b∈fp,∃o,h.get? b=some o∧∀v,o.data≠ .cell v
 keep:∀i h h',tn i h→(∀b∈fp,∀o,h.get? b=some o→h'.get? b=some o)→tn i h'
 item:∀(X:Cx),X.prog=P→X.w=w→X.K=K→X.calm=true→∀(i:Nat)(pins:List (Addr×Obj))(s:Shared)(σ:St)(H:Hp)(E:Value→Shared→Prop),Inv X pins σ H s→(∀b∈fp,FC X pins H b)→tn i s.heap→J.go i H→
  wpAny (model P w) X.A (pyNext (.ref it)) (λr s1=>∃u,r=some u∧
   wpAny (model P w) X.A (Cs tg (.ref it) u) (λ_ s2=>∃x H',Inv X pins σ H' s2∧RelV x u∧J.yld i H x H'∧tn (i+1) s2.heap∧∀b∈fp,H' b=none) E s1) E s
 done:∀(X:Cx),X.prog=P→X.w=w→X.K=K→X.calm=true→∀(i:Nat)(pins:List (Addr×Obj))(s:Shared)(σ:St)(H:Hp)(E:Value→Shared→Prop),Inv X pins σ H s→(∀b∈fp,FC X pins H b)→tn i s.heap→J.stop i H→
  wpAny (model P w) X.A (pyNext (.ref it)) (λr s1=>r=none∧Inv X pins σ H s1) E s
 self:∀(A:Be)(i:Nat)(s:Shared)(Q:Value→Shared→Prop)(E:Value→Shared→Prop),tn i s.heap→Q (.ref it) s→wpAny (model P w) A (pyIter (.ref it)) Q E s
abbrev TI:=St→Hp→(It→Hp→Prop)→Prop
def Ps(X:Cx)(pins:List (Addr×Obj))(σ:St)(tg:Expr)(R:It→Hp→Prop)(itv:Value)(s2:Shared):Prop:=
 ∃(it:Addr)(fp:List Addr)(tn:Nat→Heap→Prop)(J:It)(H':Hp),itv= .ref it∧Inv X pins σ H' s2∧Turn X.prog X.w X.K tg J fp it tn∧tn 0 s2.heap∧(∀b∈fp,FC X pins H' b)∧R J H'
def PI(X:Cx)(tg iter:Expr)(wi:TI):Prop:=
 ∀(pins:List (Addr×Obj))(s:Shared)(σ:St)(H:Hp)(R:It→Hp→Prop),Inv X pins σ H s→wi σ H R→
  wpAny (model X.prog X.w) X.A (eval iter X.env) (λv s1=>wpAny (model X.prog X.w) X.A (pyIter v) (Ps X pins σ tg R) X.xe s1) X.xe s
theorem Jz{M:Model}{A:Be}{E:Value→Shared→Prop}{tg:Expr}{it:Addr}{u:Value}{o:Obj}{n:String}{vs:Array Value}{Q:Unit→Shared→Prop}(ho:s.heap.get? it=some o)(hc:o.cls= .type n)(hd:o.data= .fields vs)
 (hn:["enumerate","zip","dict_itemiterator","dict_reverseitemiterator","odict_iterator","itertools.zip_longest","itertools.pairwise"].contains n=false) (hQ:Q () s):wpAny M A (Cs tg (.ref it) u) Q E s:=by
 unfold Cs;cases tg<;>first
  | exact Af hQ
  | (cases u<;>first
   | exact Af hQ
   | (refine Aa (wpAny_load ho ?_)
      rw[hc,hd];show wpAny M A (if(["enumerate","zip","dict_itemiterator","dict_reverseitemiterator","odict_iterator","itertools.zip_longest","itertools.pairwise"].contains n && vs[0]?==some (rawInt _))=true then _ else _) Q E s
      rw[if_neg (by intro h;rw[hn,Bj] at h;cases h)];exact Af hQ))
def Jf(K:Ad)(a:Addr):It:=
 ⟨λi H=>∃xs x,SqL K H a xs∧xs[i]?=some x,λi H x H'=>H'=H∧∀xs,SqL K H a xs→xs[i]?=some x,λi H=>∃xs,SqL K H a xs∧xs.length≤i⟩
def Je(K:Ad)(a:Addr):It:=
 ⟨λi H=>∃xs x,SqT K H a xs∧xs[i]?=some x,λi H x H'=>H'=H∧∀xs,SqT K H a xs→xs[i]?=some x,λi H=>∃xs,SqT K H a xs∧xs.length≤i⟩
def Iy(lo:Int)(n:Nat):It:=⟨λi _=>i<n,λi H x H'=>H'=H∧x= .int (lo+i),λi _=>n≤i⟩
theorem R_{tg:Expr}(a it:Addr):Turn P w K tg (Jf K a) [it] it (λi h=>h.IsListIter it a i) where
 mem:=by simp
 obj:=λi h st b hb=>by
  have e:b=it:=by simpa using hb
  subst e;obtain⟨o,e,c,d⟩:=st;exact⟨o,e,λv z=>by rw[d] at z;cases z⟩
 keep:=λi h h' st k=>st.at λo e=>k it (by simp) o e
 item:=by
  intro X hP hw hK hc i pins s σ H E I hf st hg;subst hP hw hK;obtain⟨xs,x,hq,hx⟩:=hg;obtain⟨its,rv,p,hz⟩:=I.list hq;obtain⟨u,hu,ru⟩:=rv.get hx;obtain⟨f0,f1,f2,f3,f4,f5⟩:=hf it (by simp);refine wpAny_pyNext_list_item st p.isList (x:=u) (by simpa using hu) λh' st' sb=>?_;have I1:Inv X pins σ H {s with heap:=h'}:=I.turned (t':=s.toks) (λb o hb e=>(sb.2 b hb).trans e) f0 f1 f3 f4 f5
  obtain⟨o,e,c,d⟩:=id st';exact⟨u,rfl,Jz (s:={s with heap:=h'}) e c d (by decide) ⟨x,H,I1,ru,⟨rfl,λys hy=>by rw[I.list_inj hy hq];exact hx⟩,st',λb hb=>(hf b hb).1⟩⟩
 done:=by intro X hP hw hK hc i pins s σ H E I hf st hg;subst hP hw hK;obtain⟨xs,hq,hx⟩:=hg;obtain⟨its,rv,p,hz⟩:=I.list hq;obtain⟨f0,f1,f2,f3,f4,f5⟩:=hf it (by simp);have hl:=rv.length;exact wpAny_pyNext_list_end (I.ok.hd hc) st p.isList (by simp;omega) λh' eb=>⟨rfl,I.turned (t':=s.toks) (λb o hb e=>eb b o hb e) f0 f1 f3 f4 f5⟩
 self:=λ_ _ _ _ _ st h=>wpAny_pyIter_listiter st h
theorem RT{tg:Expr}(a it:Addr):Turn P w K tg (Je K a) [it] it (λi h=>h.IsTupleIter it a i) where
 mem:=by simp
 obj:=λi h st b hb=>by
  have e:b=it:=by simpa using hb
  subst e;obtain⟨o,e,c,d⟩:=st;exact⟨o,e,λv z=>by rw[d] at z;cases z⟩
 keep:=λi h h' st k=>st.at λo e=>k it (by simp) o e
 item:=by
  intro X hP hw hK hc i pins s σ H E I hf st hg;subst hP hw hK;obtain⟨xs,x,hq,hx⟩:=hg;obtain⟨its,rv,p,hz⟩:=I.tuple hq;obtain⟨u,hu,ru⟩:=rv.get hx;obtain⟨f0,f1,f2,f3,f4,f5⟩:=hf it (by simp);refine wpAny_pyNext_tuple_item st (show s.heap.IsTuple a its.toArray from p) (x:=u) (by simpa using hu) λh' st' sb=>?_;have I1:Inv X pins σ H {s with heap:=h'}:=I.turned (t':=s.toks) (λb o hb e=>(sb.2 b hb).trans e) f0 f1 f3 f4 f5
  obtain⟨o,e,c,d⟩:=id st';exact⟨u,rfl,Jz (s:={s with heap:=h'}) e c d (by decide) ⟨x,H,I1,ru,⟨rfl,λys hy=>by rw[I.tuple_inj hy hq];exact hx⟩,st',λb hb=>(hf b hb).1⟩⟩
 done:=by intro X hP hw hK hc i pins s σ H E I hf st hg;subst hP hw hK;obtain⟨xs,hq,hx⟩:=hg;obtain⟨its,rv,p,hz⟩:=I.tuple hq;obtain⟨f0,f1,f2,f3,f4,f5⟩:=hf it (by simp);have hl:=rv.length;exact wpAny_pyNext_tuple_end (I.ok.hd hc) st (show s.heap.IsTuple a its.toArray from p) (by simp;omega) λh' eb=>⟨rfl,I.turned (t':=s.toks) (λb o hb e=>eb b o hb e) f0 f1 f3 f4 f5⟩
 self:=λ_ _ _ _ _ st h=>wpAny_pyIter_tupleiter st h
theorem RS{tg:Expr}(it:Addr)(lo:Int)(n:Nat):Turn P w K tg (Iy lo n) [it] it (λi h=>IsRangeIter h it (lo+(i:Nat)*1) ((n:Int) - (i:Nat)) 1) where
 mem:=by simp
 obj:=λi h st b hb=>by
  have e:b=it:=by simpa using hb
  subst e;exact⟨_,st,λv z=>by have z':Data.fields _=Data.cell v:=z;cases z'⟩
 keep:=λi h h' st k=>k it (by simp) _ st
 item:=by
  intro X hP hw hK hc i pins s σ H E I hf st hg;subst hP hw hK;obtain⟨f0,f1,f2,f3,f4,f5⟩:=hf it (by simp);have W:=Walks.range (prog:=X.prog) (w:=X.w) (I.ok.hd hc) it lo 1 n;refine W.item i s _ _ hg st λv h' tk hv st' kk=>?_;obtain⟨t,rfl⟩:=hv;have I1:Inv X pins σ H {s with heap:=h',toks:=tk}:=I.turned (λb o hb e=>kk b o (by simpa using hb) e) f0 f1 f3 f4 f5
  refine⟨_,rfl,Jz (s:={s with heap:=h',toks:=tk}) (n:="range_iterator") st' rfl rfl (by decide) ⟨.int (lo+i),H,I1,⟨t,?_⟩,⟨rfl,rfl⟩,st',λb hb=>(hf b hb).1⟩⟩
  rw[Int.mul_one]
 done:=by intro X hP hw hK hc i pins s σ H E I hf st hg;subst hP hw hK;obtain⟨f0,f1,f2,f3,f4,f5⟩:=hf it (by simp);exact wpAny_pyNext_range_end (I.ok.hd hc) st (by have:n≤i:=hg;omega) λh' eb=>⟨rfl,I.turned (t':=s.toks) (λb o hb e=>eb b o hb e) f0 f1 f3 f4 f5⟩
 self:=λ_ _ _ _ _ st h=>wpAny_pyIter_rangeiter st h
section
variable{X:Cx}{tg:Expr}
def P3(K:Ad)(tl:TE):TI:=λσ H R=>tl σ H λx H1=>∃a,x= .ref a∧(∃xs,SqL K H1 a xs)∧R (Jf K a) H1
def Ko(K:Ad)(tl:TE):TI:=λσ H R=>tl σ H λx H1=>∃a,x= .ref a∧(∃xs,SqT K H1 a xs)∧R (Je K a) H1
theorem KI{l:Expr}{tl:TE}(hl:PE X l tl):PI X tg l (P3 X.K tl):=by
 intro pins s σ H R I h;refine EY (hl pins s σ H _ I h) λv s1 ⟨x,H1,I1,r1,q1⟩=>?_;obtain⟨a,e,⟨xs,hq⟩,q⟩:=q1;subst e;cases r1;obtain⟨its,rv,p,hz⟩:=I1.list hq;refine CJ p.isList ?_;refine⟨s1.heap.objs.size,[s1.heap.objs.size],_,_,H1,rfl,I1.kept (t':=s1.toks) λb o e=>Ac _ e,R_ a _,⟨_,An _ rfl,rfl,rfl⟩,λb hb=>?_,q⟩;have e:b=s1.heap.objs.size:=by simpa using hb
 subst e;exact I1.fpOk (Ae _) (I1.hok.fresh (Ae _))
theorem GT{l:Expr}{tl:TE}(hl:PE X l tl):PI X tg l (Ko X.K tl):=by
 intro pins s σ H R I h;refine EY (hl pins s σ H _ I h) λv s1 ⟨x,H1,I1,r1,q1⟩=>?_;obtain⟨a,e,⟨xs,hq⟩,q⟩:=q1;subst e;cases r1;obtain⟨its,rv,p,hz⟩:=I1.tuple hq;refine BW (show s1.heap.IsTuple a its.toArray from p) ?_;refine⟨s1.heap.objs.size,[s1.heap.objs.size],_,_,H1,rfl,I1.kept (t':=s1.toks) λb o e=>Ac _ e,RT a _,⟨_,An _ rfl,rfl,rfl⟩,λb hb=>?_,q⟩;have e:b=s1.heap.objs.size:=by simpa using hb
 subst e;exact I1.fpOk (Ae _) (I1.hok.fresh (Ae _))
theorem Ro{σ:St}{H:Hp}{R:It→Hp→Prop}{E:Value→Shared→Prop}{lo hi:Int}{t u v:Tok}{tk:Nat}(I:Inv X pins σ H s)(h1: -(2^62)≤lo)(h2:lo<2^62)(h3: -(2^62)≤hi)(h4:hi<2^62)
 (q:R (Iy lo (hi - lo).toNat) H):wpAny (model X.prog X.w) X.A (pyIter (.ref s.heap.objs.size)) (Ps X pins σ tg R) E {s with heap:=s.heap.push {cls:= .type "range",data:= .fields #[.int lo t,.int hi u,.int 1 v]},toks:=tk}:=by
 refine wpAny_pyIter_range (IsRange.new ..) (small_one h1 h2 h3 h4) ?_;have I1:Inv X pins σ H {s with heap:=s.heap.push {cls:= .type "range",data:= .fields #[.int lo t,.int hi u,.int 1 v]},toks:=tk}:=I.kept λb o e=>Ac _ e
 refine⟨(s.heap.push {cls:= .type "range",data:= .fields #[.int lo t,.int hi u,.int 1 v]}).objs.size,[(s.heap.push {cls:= .type "range",data:= .fields #[.int lo t,.int hi u,.int 1 v]}).objs.size],_,_,H,rfl,
  I1.kept (t':=tk) λb o e=>Ac _ e,RS _ lo (hi - lo).toNat,?_,λb hb=>?_,q⟩
 · have e1:lo+((0:Nat):Int)*1=lo:=by simp
   have e2:(((hi - lo).toNat:Nat):Int) - ((0:Nat):Int)=Builtin.Range.rangeSize lo hi 1:=by rw[rangeSize_one];split<;>omega
   show IsRangeIter _ _ (lo+((0:Nat):Int)*1) ((((hi - lo).toNat:Nat):Int) - ((0:Nat):Int)) 1;rw[e1,e2];exact An _ rfl
 · have e:b=(s.heap.push {cls:= .type "range",data:= .fields #[.int lo t,.int hi u,.int 1 v]}).objs.size:=by simpa using hb
   subst e;exact I1.fpOk (Ae _) (I1.hok.fresh (Ae _))
def P4(ta:TA):TI:=λσ H R=>ta σ H λvs H1=>∃j:Int,vs=[.int j]∧ -(2^62)≤j∧j<2^62∧R (Iy 0 j.toNat) H1
theorem Ip{a:Expr}{ta:TA}{p:Pos}(hg:Gl X "range")(hm:X.mg "range"=none)(ha:PA X [a] ta)(hs:Av [a] X.env=[(false,eval a X.env)]:=by rfl):PI X tg (.Call (.Name "range" p) [a] [] pos) (P4 ta):=by
 intro pins s σ H R I h;refine Call_ (IF I hg hm boot_range (Bt (EY (ha pos pins s σ H _ I h) λus s1 ⟨vs,H1,I1,r1,q1⟩=>?_) hs rfl));obtain⟨j,e,q1,q2,q⟩:=q1;subst e;cases r1 with
 | cons r rr=> cases rr;obtain⟨t,rfl⟩:=r;exact call_range_1 (Ro I1 (by omega) (by omega) q1 q2 (by simpa using q))
def MH(wi:TI)(g:TG)(tb:TS):TS:=λD σ H=>wi σ H λJ H1=>∃W:Nat→Nat→St→Hp→Prop,(∃m,W 0 m σ H1)∧∀i m σ H,W i m σ H→
 (J.stop i H∧D.nx σ H)∨(J.go i H∧∃N:St→Hp→Prop,(∀σ' H',N σ' H'→∃m',m'<m∧W (i+1) m' σ' H')∧∀x H',J.yld i H x H'→g x σ H' λσ2 H2=>tb {D with nx:=N,ct:=N,bk:=D.nx} σ2 H2)
def JH(fp:List Addr)(h:Heap):List (Addr×Obj):=fp.filterMap λb=>(h.get? b).map λo=>(b,o)
theorem KQ{fp:List Addr}{o:Obj}(hb:b∈fp)(e:h.get? b=some o):(b,o)∈JH fp h:=List.mem_filterMap.mpr ⟨b,hb,by rw[e];rfl⟩
theorem Re{fp:List Addr}{p:Addr×Obj}(hp:p∈JH fp h):p.1∈fp∧h.get? p.1=some p.2:=by
 obtain⟨b,hb,e⟩:=List.mem_filterMap.mp hp;cases q:h.get? b with
 | none=>rw[q] at e;cases e
 | some o=> rw[q] at e;have e':(b,o)=p:=A2 e;subst e';exact⟨hb,q⟩
theorem Inv.pinned{σ:St}{H:Hp}{fp:List Addr}(I:Inv X pins σ H s)(hf:∀b∈fp,FC X pins H b)(ho:∀b∈fp,∃o,s.heap.get? b=some o∧∀v,o.data≠ .cell v):Inv X (pins++JH fp s.heap) σ H s:=
 I.pins_of λp hp=>(AC.mp hp).elim (λz=>I.pin p (AD _ z)) λz=>by obtain⟨hb,e⟩:=Re z;obtain⟨f0,f1,f2,_⟩:=hf p.1 hb;obtain⟨o,e',d⟩:=ho p.1 hb;rw[e] at e';cases e';exact⟨e,f0,f1,f2,d⟩
theorem Inv.unpinned{pl:List (Addr×Obj)}{σ:St}{H:Hp}(I:Inv X (pins++pl) σ H s):Inv X pins σ H s:=I.pins_of λp hp=>I.pin p (AD _ (D3 _ hp))
theorem GL{iter:Expr}{body:List Stmt}{wi:TI}{g:TG}{tb:TS}{pos:Pos}(hp:PassesOwn (model X.prog X.w) X.A X.env X.xe)(hc:X.calm=true)(hi:PI X tg iter wi)(hg:PG X tg g)(hb:PSs X body tb)
 (hs:∀x,foldedSetIterable iter X.env x=pure x:=by intro _;rfl):PS X (.For tg iter body [] pos) (MH wi g tb):=by
 intro pins s σ H D I h;refine wpAny_For (EY (hi pins s σ H _ I h) λv s1 h1=>EY h1 λitv s2 h2=>?_) hs;obtain⟨it,fp,tn,J,H2,e,I2,T,st2,f2,W,⟨m0,w0⟩,turn⟩:=h2;subst e;have stat:∀{H':Hp},(∀b∈fp,H' b=none)→∀b∈fp,FC X pins H' b:=λhn b hb=>⟨hn b hb,(f2 b hb).2⟩;refine codeAny_forLoop_any (λn s'=>∃i σ' H',Inv X pins σ' H' s'∧tn i s'.heap∧(∀b∈fp,H' b=none)∧W i n σ' H') ?_ m0 ⟨0,σ,H2,I2,st2,λb hb=>(f2 b hb).1,w0⟩;rintro n s3 ⟨i,σ3,H3,I3,st3,fr3,w3⟩;rcases turn i n σ3 H3 w3 with⟨stop,qn⟩ | ⟨go,N,hN,step⟩
 · refine BS hp (EY (T.done X rfl rfl rfl hc i pins s3 σ3 H3 X.xe I3 (stat fr3) st3 stop) λr s4 ⟨hr,I4⟩=>?_);subst hr;exact Dg ⟨σ3,H3,I4,qn⟩
 · refine BS hp (EY (T.item X rfl rfl rfl hc i pins s3 σ3 H3 X.xe I3 (stat fr3) st3 go) λr s4 ⟨u,hr,h4⟩=>?_);subst hr;refine BS hp (EY h4 λ_ s5 ⟨x,H5,I5,r5,y5,st5,fr5⟩=>?_);have I5':=I5.pinned (stat fr5) (T.obj _ _ st5);refine BS hp (EY (hg _ s5 σ3 H5 x u _ I5' r5 (step x H5 y5)) λ_ s6 ⟨σ6,H6,I6,q6⟩=>?_);refine BS hp (EY (hb _ s6 σ6 H6 _ I6 q6) λf s7 q7=>?_);have again:∀{σ7:St}{H7:Hp},Inv X (pins++JH fp s5.heap) σ7 H7 s7→N σ7 H7→∃m,m<n∧∃i σ' H',Inv X pins σ' H' s7∧tn i s7.heap∧(∀b∈fp,H' b=none)∧W i m σ' H':=λ{σ7 H7}I7 n7=>by
    obtain⟨m',hm,w7⟩:=hN σ7 H7 n7;refine⟨m',hm,i+1,σ7,H7,I7.unpinned,T.keep _ _ _ st5 λb hb o e=>(I7.pin (b,o) (AD _ (AD _ (KQ hb e)))).1,λb hb=>?_,w7⟩;obtain⟨o,e,d⟩:=T.obj _ _ st5 b hb;exact(I7.pin (b,o) (AD _ (AD _ (KQ hb e)))).2.1
   cases f with
   | next=>obtain⟨σ7,H7,I7,n7⟩:=q7;exact again I7 n7
   | cont=>obtain⟨σ7,H7,I7,n7⟩:=q7;exact again I7 n7
   | brk=>obtain⟨σ7,H7,I7,q7⟩:=q7;exact⟨σ7,H7,I7.unpinned,q7⟩
   | ret v=>obtain⟨x7,σ7,H7,I7,r7,q7⟩:=q7;exact⟨x7,σ7,H7,I7.unpinned,r7,q7⟩
end
theorem LX{xs:List V}{g:TG}{tb:TS}{D:Ends}{σ:St}{H:Hp}(Pv:Nat→St→Hp→Prop)(h0:Pv 0 σ H)(hl:∀i σ H,i≤xs.length→Pv i σ H→SqL K H a xs)
 (hs:∀i x σ H,xs[i]?=some x→Pv i σ H→g x σ H λσ2 H2=>tb {D with nx:=Pv (i+1),ct:=Pv (i+1),bk:=D.nx} σ2 H2) (hd:∀σ H,Pv xs.length σ H→D.nx σ H):
 ∃W:Nat→Nat→St→Hp→Prop,(∃m,W 0 m σ H)∧∀i m σ H,W i m σ H→
  ((Jf K a).stop i H∧D.nx σ H)∨((Jf K a).go i H∧∃N:St→Hp→Prop,(∀σ' H',N σ' H'→∃m',m'<m∧W (i+1) m' σ' H')∧∀x H',(Jf K a).yld i H x H'→g x σ H' λσ2 H2=>tb {D with nx:=N,ct:=N,bk:=D.nx} σ2 H2):=by
 refine⟨λi m σ H=>m=xs.length - i∧i≤xs.length∧Pv i σ H,⟨xs.length,by simp,BA _,h0⟩,?_⟩;rintro i m σ H ⟨rfl,hi,p⟩;have q:=hl i σ H hi p;by_cases hlt:i<xs.length
 · refine .inr ⟨⟨xs,xs[i],q,by simp[hlt]⟩,Pv (i+1),λσ' H' p'=>⟨xs.length - (i+1),by omega,rfl,hlt,p'⟩,λx H' y=>?_⟩;obtain⟨e,y⟩:=y;subst e;exact hs i x σ _ (y xs q) p
 · have e:i=xs.length:=by omega
   subst e;exact .inl ⟨⟨xs,q,Ae _⟩,hd σ H p⟩
theorem LW{xs:List V}{g:TG}{tb:TS}{D:Ends}{σ:St}{H:Hp}(Pv:Nat→St→Hp→Prop)(h0:Pv 0 σ H)(hl:∀i σ H,i≤xs.length→Pv i σ H→SqT K H a xs)
 (hs:∀i x σ H,xs[i]?=some x→Pv i σ H→g x σ H λσ2 H2=>tb {D with nx:=Pv (i+1),ct:=Pv (i+1),bk:=D.nx} σ2 H2) (hd:∀σ H,Pv xs.length σ H→D.nx σ H):
 ∃W:Nat→Nat→St→Hp→Prop,(∃m,W 0 m σ H)∧∀i m σ H,W i m σ H→
  ((Je K a).stop i H∧D.nx σ H)∨((Je K a).go i H∧∃N:St→Hp→Prop,(∀σ' H',N σ' H'→∃m',m'<m∧W (i+1) m' σ' H')∧∀x H',(Je K a).yld i H x H'→g x σ H' λσ2 H2=>tb {D with nx:=N,ct:=N,bk:=D.nx} σ2 H2):=by
 refine⟨λi m σ H=>m=xs.length - i∧i≤xs.length∧Pv i σ H,⟨xs.length,by simp,BA _,h0⟩,?_⟩;rintro i m σ H ⟨rfl,hi,p⟩;have q:=hl i σ H hi p;by_cases hlt:i<xs.length
 · refine .inr ⟨⟨xs,xs[i],q,by simp[hlt]⟩,Pv (i+1),λσ' H' p'=>⟨xs.length - (i+1),by omega,rfl,hlt,p'⟩,λx H' y=>?_⟩;obtain⟨e,y⟩:=y;subst e;exact hs i x σ _ (y xs q) p
 · have e:i=xs.length:=by omega
   subst e;exact .inl ⟨⟨xs,q,Ae _⟩,hd σ H p⟩
theorem IN{lo:Int}{n:Nat}{g:TG}{tb:TS}{D:Ends}{σ:St}{H:Hp}(Pv:Nat→St→Hp→Prop)(h0:Pv 0 σ H)
 (hs:∀i σ H,i<n→Pv i σ H→g (.int (lo+i)) σ H λσ2 H2=>tb {D with nx:=Pv (i+1),ct:=Pv (i+1),bk:=D.nx} σ2 H2) (hd:∀σ H,Pv n σ H→D.nx σ H):
 ∃W:Nat→Nat→St→Hp→Prop,(∃m,W 0 m σ H)∧∀i m σ H,W i m σ H→
  ((Iy lo n).stop i H∧D.nx σ H)∨((Iy lo n).go i H∧∃N:St→Hp→Prop,(∀σ' H',N σ' H'→∃m',m'<m∧W (i+1) m' σ' H')∧∀x H',(Iy lo n).yld i H x H'→g x σ H' λσ2 H2=>tb {D with nx:=N,ct:=N,bk:=D.nx} σ2 H2):=by
 refine⟨λi m σ H=>m=n - i∧i≤n∧Pv i σ H,⟨n,by simp,BA _,h0⟩,?_⟩;rintro i m σ H ⟨rfl,hi,p⟩;by_cases hlt:i<n
 · refine .inr ⟨hlt,Pv (i+1),λσ' H' p'=>⟨n - (i+1),by omega,rfl,hlt,p'⟩,λx H' y=>?_⟩;obtain⟨e,y⟩:=y;subst e y;exact hs i σ _ hlt p
 · have e:i=n:=by omega
   subst e;exact .inl ⟨Ae _,hd σ H p⟩
abbrev R2:=V→V→Hp→VK→Prop
def FB(X:Cx)(f:Value→Value→Sem Value)(r:R2):Prop:=
 ∀(pins:List (Addr×Obj))(s:Shared)(σ:St)(H:Hp)(x y:V)(v u:Value)(Q:VK),Inv X pins σ H s→RelV x v→RelV y u→r x y H Q→
  wpAny (model X.prog X.w) X.A (f v u) (EP X pins σ Q) X.xe s
def No(X:Cx)(f:Value→Sem Value)(r:V→Hp→VK→Prop):Prop:=
 ∀(pins:List (Addr×Obj))(s:Shared)(σ:St)(H:Hp)(x:V)(v:Value)(Q:VK),Inv X pins σ H s→RelV x v→r x H Q→
  wpAny (model X.prog X.w) X.A (f v) (EP X pins σ Q) X.xe s
def GO(X:Cx)(f:Value)(r:List V→Hp→VK→Prop):Prop:=
 ∀(pins:List (Addr×Obj))(s:Shared)(σ:St)(H:Hp)(xs:List V)(us:List Value)(Q:VK),Inv X pins σ H s→Vals xs us→r xs H Q→
  wpAny (model X.prog X.w) X.A (call f us) (EP X pins σ Q) X.xe s
def Nq(X:Cx)(r:V→Hp→(Bool→Hp→Prop)→Prop):Prop:=
 ∀(pins:List (Addr×Obj))(s:Shared)(σ:St)(H:Hp)(x:V)(v:Value)(Q:Bool→Hp→Prop),Inv X pins σ H s→RelV x v→r x H Q→
  wpAny (model X.prog X.w) X.A (truthy v) (TP X pins σ Q) X.xe s
def Hf(r:R2)(ta tb:TE):TE:=λσ H Q=>ta σ H λx H1=>tb σ H1 λy H2=>r x y H2 Q
def TW(r:V→Hp→VK→Prop)(ta:TE):TE:=λσ H Q=>ta σ H λx H1=>r x H1 Q
def rI(C:Int→Int→Prop)(g:Int→Int→V):R2:=λx y H Q=>∃i j,x= .int i∧y= .int j∧C i j∧Q (g i j) H
def Iv(g:Int→Int→V):R2:=λx y H Q=>∃i j,x= .int i∧y= .int j∧Q (g i j) H
def rU(g:Int→V):V→Hp→VK→Prop:=λx H Q=>∃i,x= .int i∧Q (g i) H
section
variable{X:Cx}{a b c:Expr}{ta tb tc:TE}
theorem Ja(ha:PE X a ta)(hb:PE X b tb){σ:St}{H:Hp}{R:V→V→Hp→Prop}(I:Inv X pins σ H s)
 (h:ta σ H λx H1=>tb σ H1 λy H2=>R x y H2) {Q:Value→Shared→Prop} {f:Value→Value→Sem Value}
 (hf:∀v u s2 x y H2,Inv X pins σ H2 s2→RelV x v→RelV y u→R x y H2→wpAny (model X.prog X.w) X.A (f v u) Q X.xe s2):
 wpAny (model X.prog X.w) X.A (eval a X.env) (λv s₁=>wpAny (model X.prog X.w) X.A (eval b X.env) (λu s₂=>wpAny (model X.prog X.w) X.A (f v u) Q X.xe s₂) X.xe s₁) X.xe s:=by
 refine EY (ha pins s σ H _ I h) λv s1 ⟨x,H1,I1,r1,q1⟩=>?_;refine EY (hb pins s1 σ H1 _ I1 q1) λu s2 ⟨y,H2,I2,r2,q2⟩=>?_;exact hf v u s2 x y H2 I2 r1 r2 q2
theorem EX{op:Operator}{r:R2}(ho:FB X (binaryOp op) r)(ha:PE X a ta)(hb:PE X b tb):PE X (.BinOp a op b pos) (Hf r ta tb):=by intro pins s σ H Q I h;exact wpAny_BinOp (Ja ha hb I h λv u s2 x y H2 I2 rx ry q=>ho pins s2 σ H2 x y v u Q I2 rx ry q)
theorem JC{op:UnaryOp}{r:V→Hp→VK→Prop}(ho:No X (unaryOp op) r)(ha:PE X a ta):PE X (.UnaryOp op a pos) (TW r ta):=by intro pins s σ H Q I h;exact UnaryOp_ (EY (ha pins s σ H _ I h) λv s1 ⟨x,H1,I1,r1,q1⟩=>ho pins s1 σ H1 x v Q I1 r1 q1)
theorem Lv{f:Value→Value→Sem Value}{C:Int→Int→Prop}{g:Int→Int→Int}
 (rule:∀(i j:Int)(t u:Tok)(s:Shared)(Q:Value→Shared→Prop)(E:Value→Shared→Prop),C i j→Q (.int (g i j) s.toks) {s with toks:=s.toks+1}→wpAny (model X.prog X.w) X.A (f (.int i t) (.int j u)) Q E s):
 FB X f (rI C λi j=> .int (g i j)):=by
 intro pins s σ H x y v u Q I rx ry h;obtain⟨i,j,rfl,rfl,hc,q⟩:=h;obtain⟨t,rfl⟩:=rx;obtain⟨t',rfl⟩:=ry;exact rule i j t t' s _ _ hc ⟨.int (g i j),H,I.tok _,⟨_,rfl⟩,q⟩
theorem Kg{f:Value→Value→Sem Value}{g:Int→Int→Int}
 (rule:∀(i j:Int)(t u:Tok)(s:Shared)(Q:Value→Shared→Prop)(E:Value→Shared→Prop),Q (.int (g i j) s.toks) {s with toks:=s.toks+1}→wpAny (model X.prog X.w) X.A (f (.int i t) (.int j u)) Q E s):
 FB X f (Iv λi j=> .int (g i j)):=by
 intro pins s σ H x y v u Q I rx ry h;obtain⟨i,j,rfl,rfl,q⟩:=h;obtain⟨t,rfl⟩:=rx;obtain⟨t',rfl⟩:=ry;exact rule i j t t' s _ _ ⟨.int (g i j),H,I.tok _,⟨_,rfl⟩,q⟩
theorem HN{f:Value→Value→Sem Value}{g:Int→Int→Bool}
 (rule:∀(i j:Int)(t u:Tok)(s:Shared)(Q:Value→Shared→Prop)(E:Value→Shared→Prop),Q (.bool (g i j)) s→wpAny (model X.prog X.w) X.A (f (.int i t) (.int j u)) Q E s):
 FB X f (Iv λi j=> .bl (g i j)):=by
 intro pins s σ H x y v u Q I rx ry h;obtain⟨i,j,rfl,rfl,q⟩:=h;obtain⟨t,rfl⟩:=rx;obtain⟨t',rfl⟩:=ry;exact rule i j t t' s _ _ ⟨.bl (g i j),H,I,rfl,q⟩
def CMul(i j:Int):Prop:=(-(2^64)<i∧i<2^64)∨(-(2^64)<j∧j<2^64)
theorem CMul.ok{i j:Int}(h:CMul i j):IntMulOk i j:=by
 rcases h with⟨h1,h2⟩ | ⟨h1,h2⟩
 · exact .of_left (intBits_le_64 h1 h2)
 · exact .of_right (intBits_le_64 h1 h2)
theorem Gd:FB X (binaryOp .Add) (Iv λi j=> .int (i+j)):=Kg λ_ _ _ _ _ _ _ q=>add_int q
theorem IH:FB X (binaryOp .Sub) (Iv λi j=> .int (i - j)):=Kg λ_ _ _ _ _ _ _ q=>sub_int q
theorem Il:FB X (binaryOp .Mult) (rI CMul λi j=> .int (i*j)):=Lv λ_ _ _ _ _ _ _ hc q=>mul_int q hc.ok
theorem Ik:FB X (binaryOp .Mod) (rI (λ_ j=>0<j) λi j=> .int (i%j)):=Lv λi j _ _ _ _ _ hc q=>by have h1:(0:Int)<j:=hc;exact mod_int' (by omega) (by rw[Int.fmod_eq_emod_of_nonneg i (by omega)];exact q)
theorem TV{f:Value→Sem Value}{g:Int→Int}
 (rule:∀(i:Int)(t:Tok)(s:Shared)(Q:Value→Shared→Prop)(E:Value→Shared→Prop),Q (.int (g i) s.toks) {s with toks:=s.toks+1}→wpAny (model X.prog X.w) X.A (f (.int i t)) Q E s):
 No X f (rU λi=> .int (g i)):=by
 intro pins s σ H x v Q I rx h;obtain⟨i,rfl,q⟩:=h;obtain⟨t,rfl⟩:=rx;exact rule i t s _ _ ⟨.int (g i),H,I.tok _,⟨_,rfl⟩,q⟩
theorem JD:No X (unaryOp .USub) (rU λi=> .int (-i)):=TV λ_ _ _ _ _ q=>neg_int q
end
def Ka:V→V→Bool
 | .non,.non=>true | .non,.int _=>true | .int _,.non=>true | .non,.bl _=>true | .bl _,.non=>true | .non,.str _=>true | .str _,.non=>true
 | .int _,.int _=>true | .bl _,.bl _=>true | .str _,.str _=>true | .byt _,.byt _=>true
 | .int _,.str _=>true | .str _,.int _=>true | .bl _,.str _=>true | .str _,.bl _=>true
 | _,_=>false
def Lu:R2:=λx y H Q=>Ka x y=true∧Q (.bl (decide (x=y))) H
def Ls:R2:=λx y H Q=>Ka x y=true∧Q (.bl (!decide (x=y))) H
theorem Om{i j:Int}:decide (V.int i=V.int j)=(i==j):=by rw[BU];simp
theorem NT{i j:Bool}:decide (V.bl i=V.bl j)=(i==j):=by rw[BU];simp
theorem On{i j:Str}:decide (V.str i=V.str j)=(i==j):=by rw[BU];simp
theorem Ol{i j:Array UInt8}:decide (V.byt i=V.byt j)=(i.toList==j.toList):=by rw[BU];cases i;cases j;simp
section
variable{X:Cx}{a b c:Expr}{ta tb tc:TE}
theorem FF{σ:St}{H:Hp}{Q:VK}{k k':Bool}(I:Inv X pins σ H s)(q:Q (.bl k) H)(e:k=k'):EP X pins σ Q (.bool k') s:=by subst e;exact⟨.bl k,H,I,rfl,q⟩
theorem Gb:FB X (AK .Eq) Lu:=by
 intro pins s σ H x y v u Q I rx ry h;obtain⟨hs,q⟩:=h;cases x with
 | non=>
  cases rx;cases y with
  | non=>cases ry;exact PySem.EqNone.eq_none_none (FF I q (by simp))
  | bl j=>cases ry;exact PySem.EqNone.eq_none_bool (FF I q (by simp))
  | int j=>obtain⟨t',rfl⟩:=ry;exact PySem.EqNone.eq_none_int (FF I q (by simp))
  | str j=>obtain⟨t',rfl⟩:=ry;exact PySem.EqNone.eq_none_str (FF I q (by simp))
  | _=>exact absurd (show false=true from hs) Ar
 | bl i=>
  cases rx;cases y with
  | non=>cases ry;exact PySem.EqNone.eq_bool_none (FF I q (by simp))
  | bl j=>cases ry;exact eq_bool (FF I q NT)
  | str j=>obtain⟨t',rfl⟩:=ry;exact PySem.EqMixed.eq_bool_str (FF I q (by simp))
  | _=>exact absurd (show false=true from hs) Ar
 | int i=>
  obtain⟨t,rfl⟩:=rx;cases y with
  | non=>cases ry;exact PySem.EqNone.eq_int_none (FF I q (by simp))
  | int j=>obtain⟨t',rfl⟩:=ry;exact eq_int (FF I q Om)
  | str j=>obtain⟨t',rfl⟩:=ry;exact PySem.EqMixed.eq_int_str (FF I q (by simp))
  | _=>exact absurd (show false=true from hs) Ar
 | str i=>
  obtain⟨t,rfl⟩:=rx;cases y with
  | non=>cases ry;exact PySem.EqNone.eq_str_none (FF I q (by simp))
  | bl j=>cases ry;exact PySem.EqMixed.eq_str_bool (FF I q (by simp))
  | int j=>obtain⟨t',rfl⟩:=ry;exact PySem.EqMixed.eq_str_int (FF I q (by simp))
  | str j=>obtain⟨t',rfl⟩:=ry;exact eq_str (FF I q On)
  | _=>exact absurd (show false=true from hs) Ar
 | byt i=>
  obtain⟨t,rfl⟩:=rx;cases y with
  | byt j=>obtain⟨t',rfl⟩:=ry;exact PySem.W.eq_bytes (FF I q Ol)
  | _=>exact absurd (show false=true from hs) Ar
 | _=>cases y<;>exact absurd (show false=true from hs) Ar
theorem HE:FB X (AK .NotEq) Ls:=by
 intro pins s σ H x y v u Q I rx ry h;obtain⟨hs,q⟩:=h;cases x with
 | non=>
  cases rx;cases y with
  | non=>cases ry;exact PySem.EqNone.ne_none_none (FF I q (by simp))
  | bl j=>cases ry;exact PySem.EqNone.ne_none_bool (FF I q (by simp))
  | int j=>obtain⟨t',rfl⟩:=ry;exact PySem.EqNone.ne_none_int (FF I q (by simp))
  | str j=>obtain⟨t',rfl⟩:=ry;exact PySem.EqNone.ne_none_str (FF I q (by simp))
  | _=>exact absurd (show false=true from hs) Ar
 | bl i=>
  cases rx;cases y with
  | non=>cases ry;exact PySem.EqNone.ne_bool_none (FF I q (by simp))
  | bl j=>cases ry;exact ne_bool (FF I q (congrArg not NT))
  | str j=>obtain⟨t',rfl⟩:=ry;exact PySem.EqMixed.ne_bool_str (FF I q (by simp))
  | _=>exact absurd (show false=true from hs) Ar
 | int i=>
  obtain⟨t,rfl⟩:=rx;cases y with
  | non=>cases ry;exact PySem.EqNone.ne_int_none (FF I q (by simp))
  | int j=>obtain⟨t',rfl⟩:=ry;exact ne_int (FF I q (congrArg not Om))
  | str j=>obtain⟨t',rfl⟩:=ry;exact PySem.EqMixed.ne_int_str (FF I q (by simp))
  | _=>exact absurd (show false=true from hs) Ar
 | str i=>
  obtain⟨t,rfl⟩:=rx;cases y with
  | non=>cases ry;exact PySem.EqNone.ne_str_none (FF I q (by simp))
  | bl j=>cases ry;exact PySem.EqMixed.ne_str_bool (FF I q (by simp))
  | int j=>obtain⟨t',rfl⟩:=ry;exact PySem.EqMixed.ne_str_int (FF I q (by simp))
  | str j=>obtain⟨t',rfl⟩:=ry;exact ne_str (FF I q (congrArg not On))
  | _=>exact absurd (show false=true from hs) Ar
 | byt i=>
  obtain⟨t,rfl⟩:=rx;cases y with
  | byt j=>obtain⟨t',rfl⟩:=ry;exact PySem.W.ne_bytes (FF I q (congrArg not Ol))
  | _=>exact absurd (show false=true from hs) Ar
 | _=>cases y<;>exact absurd (show false=true from hs) Ar
theorem HZ:FB X (AK .Lt) (Iv λi j=> .bl (decide (i<j))):=HN λ_ _ _ _ _ _ _ q=>lt_int q
theorem LA:FB X (AK .LtE) (Iv λi j=> .bl (decide (i≤j))):=HN λ_ _ _ _ _ _ _ q=>le_int q
theorem Ho:FB X (AK .Gt) (Iv λi j=> .bl (decide (j<i))):=HN λ_ _ _ _ _ _ _ q=>gt_int q
theorem L9:FB X (AK .GtE) (Iv λi j=> .bl (decide (j≤i))):=HN λ_ _ _ _ _ _ _ q=>ge_int q
theorem Rh:FB X (AK .Lt) (λx y H Q=>∃i j,x= .str i∧y= .str j∧Q (.bl (decide (i.cps.toList<j.cps.toList))) H):=by intro pins s σ H x y v u Q I rx ry h;obtain⟨i,j,rfl,rfl,q⟩:=h;obtain⟨t,rfl⟩:=rx;obtain⟨t',rfl⟩:=ry;exact lt_str (FF I q rfl)
theorem Fd(b:Expr){op:CmpOp}(h:op≠ .In:=by decide)(h2:op≠ .NotIn:=by decide):behindInMarks op b=false:=by
 have e1:(op==CmpOp.In)=false:=by cases op<;>first | rfl | exact absurd rfl h
 have e2:(op==CmpOp.NotIn)=false:=by cases op<;>first | rfl | exact absurd rfl h2
 cases b<;>simp[behindInMarks,e1,e2]
theorem Gw{op:CmpOp}{r:R2}(ho:FB X (AK op) r)(ha:PE X a ta)(hb:PE X b tb)(hm:behindInMarks op b=false):PE X (.Compare a [op] [b] pos) (Hf r ta tb):=by intro pins s σ H Q I h;exact wpAny_Compare1 (Ja ha hb I h λv u s2 x y H2 I2 rx ry q=>ho pins s2 σ H2 x y v u Q I2 rx ry q) hm
def IE(t:TE):TT:=λσ H Q=>t σ H λx H'=>∃k,x= .bl k∧Q k H'
theorem Fq{op:CmpOp}{r:R2}(ho:FB X (AK op) r)(ha:PE X a ta)(hb:PE X b tb)(hm:behindInMarks op b=false):PT X (.Compare a [op] [b] pos) (IE (Hf r ta tb)):=by intro pins s σ H Q I h;refine wpAny_isTrue_Compare1 (EY (ha pins s σ H _ I h) λv s1 ⟨x,H1,I1,r1,q1⟩=>EY (hb pins s1 σ H1 _ I1 q1) λu s2 ⟨y,H2,I2,r2,q2⟩=> EY (ho pins s2 σ H2 x y v u _ I2 r1 r2 q2) λc s3 ⟨z,H3,I3,r3,k,e,q3⟩=>?_) hm;subst e;cases r3;exact AM ⟨H3,I3,q3⟩
def NM(r r':R2)(ta tb tc:TE):TE:=λσ H Q=>ta σ H λx H1=>tb σ H1 λy H2=>r x y H2 λz H3=>∃k,z= .bl k∧
 (if k=true then tc σ H3 λw' H4=>r' y w' H4 Q else Q (.bl false) H3)
theorem Rj{op op':CmpOp}{r r':R2}(ho:FB X (AK op) r)(ho':FB X (AK op') r')(ha:PE X a ta)(hb:PE X b tb)(hc:PE X c tc)
 (hm:lastMarks [op,op'] [b,c]=false:=by with_unfolding_all rfl):PE X (.Compare a [op,op'] [b,c] pos) (NM r r' ta tb tc):=by
 intro pins s σ H Q I h;refine Compare_chain (EY (ha pins s σ H _ I h) λv s1 ⟨x,H1,I1,r1,q1⟩=>chain_link (EY (hb pins s1 σ H1 _ I1 q1) λu s2 ⟨y,H2,I2,r2,q2⟩=> EY (ho pins s2 σ H2 x y v u _ I2 r1 r2 q2) λd s3 ⟨z,H3,I3,r3,k,e,q3⟩=>?_)) hm;subst e;cases r3;refine AM ?_;cases k with
 | false=>exact ite_ff ⟨.bl false,H3,I3,rfl,q3⟩
 | true=>exact ite_tt (chain_last (EY (hc pins s3 σ H3 _ I3 q3) λw' s4 ⟨z',H4,I4,r4,q4⟩=>ho' pins s4 σ H4 y z' u w' Q I4 r2 r4 q4))
theorem Rm{op op':CmpOp}{r r':R2}(ho:FB X (AK op) r)(ho':FB X (AK op') r')(ha:PE X a ta)(hb:PE X b tb)(hc:PE X c tc)
 (hm:lastMarks [op,op'] [b,c]=false:=by with_unfolding_all rfl):PT X (.Compare a [op,op'] [b,c] pos) (IE (NM r r' ta tb tc)):=by
 intro pins s σ H Q I h;refine isTrue_chain (EY (ha pins s σ H _ I h) λv s1 ⟨x,H1,I1,r1,q1⟩=>test_link (EY (hb pins s1 σ H1 _ I1 q1) λu s2 ⟨y,H2,I2,r2,q2⟩=> EY (ho pins s2 σ H2 x y v u _ I2 r1 r2 q2) λd s3 ⟨z,H3,I3,r3,k,e,q3⟩=>?_)) hm;subst e;cases r3;refine AM ?_;cases k with
 | false=> obtain⟨k',e',q'⟩:=q3;cases e';exact ite_ff ⟨H3,I3,q'⟩
 | true=> refine ite_tt (test_last (EY (hc pins s3 σ H3 _ I3 q3) λw' s4 ⟨z',H4,I4,r4,q4⟩=>EY (ho' pins s4 σ H4 y z' u w' _ I4 r2 r4 q4) λd' s5 ⟨z2,H5,I5,r5,k2,e2,q5⟩=>?_));subst e2;cases r5;exact AM ⟨H5,I5,q5⟩
def Kt(K:Ad)(x:V)(H:Hp)(k:Bool):Prop:=
 match x with
 | .non=>k=false
 | .bl b=>k=b
 | .int i=>k=(i !=0)
 | .str y=>y.length≤Ak∧k=((y.length:Int) !=0)
 | .byt y=>y.size≤Ak∧k=((y.size:Int) !=0)
 | .ref p=>(∃xs,SqL K H p xs∧k=!xs.isEmpty)∨(∃xs,SqT K H p xs∧k=!xs.isEmpty)∨∃kvs,H p=some (.dK kvs)∧k=!kvs.isEmpty
 | _=>False
theorem Sk{κ:Type}{kvs:List (κ×V)}{vs:List (κ×Value)}(r:KV kvs vs):(!vs.isEmpty)=!kvs.isEmpty:=by cases r<;>rfl
theorem Pa{xs:List V}{its:List Value}(r:Vals xs its):(!its.toArray.isEmpty)=!xs.isEmpty:=by cases r<;>simp
theorem IG:(Ak:Nat)<2^63:=by rw[sizeLine_eq];decide
theorem PM:Nq X (λx H Q=>∃k,Kt X.K x H k∧Q k H):=by
 intro pins s σ H x v Q I rx h;obtain⟨k,e,q⟩:=h;have hl:=IG;have hs:Ak=16777216:=sizeLine_eq;cases x with
 | non=> cases rx;have e':k=false:=e;subst e';exact truthy_none ⟨H,I,q⟩
 | bl b=> cases rx;have e':k=b:=e;subst e';exact AM ⟨H,I,q⟩
 | int i=> obtain⟨t,rfl⟩:=rx;have e':k=(i !=0):=e;subst e';exact PySem.P.truthy_int ⟨H,I,q⟩
 | str y=> obtain⟨t,rfl⟩:=rx;obtain⟨hy,e'⟩:y.length≤Ak∧k=((y.length:Int) !=0):=e;subst e';exact PySem.P.truthy_str (by omega) ⟨H,I.tok _,q⟩
 | byt y=> obtain⟨t,rfl⟩:=rx;obtain⟨hy,e'⟩:y.size≤Ak∧k=((y.size:Int) !=0):=e;subst e';exact PySem.W.truthy_bytes (by omega) ⟨H,I.tok _,q⟩
 | ref p=>
  cases rx;have e':(∃xs,SqL X.K H p xs∧k=!xs.isEmpty)∨(∃xs,SqT X.K H p xs∧k=!xs.isEmpty)∨∃kvs,H p=some (.dK kvs)∧k=!kvs.isEmpty:=e;rcases e' with⟨xs,hx,e'⟩ | ⟨xs,hx,e'⟩ | ⟨kvs,hx,e'⟩
  · subst e';obtain⟨its,r,pl,hz⟩:=I.list hx;have hlen:=r.length;exact wpAny_truthy_list pl.isList (by simp only[Ag];omega) ⟨H,I.tok _,by rw[Pa r];exact q⟩
  · subst e';obtain⟨its,r,pl,hz⟩:=I.tuple hx;have hlen:=r.length;exact truthy_tuple pl (by simp only[Ag];omega) ⟨H,I.tok _,by rw[Pa r];exact q⟩
  · subst e';obtain⟨hz,hS,vs,r,m⟩:kvs.length≤Ak∧(p==BO)=false∧∃vs,KV kvs vs∧s.heap.DictOf (LH X.prog X.w) p vs:=I.hok p _ hx;have hlen:kvs.length=vs.length:=Paired.length r;exact wpAny_truthy_dict hS m (by omega) ⟨H,I.tok _,by rw[Sk r];exact q⟩
 | _=>exact(show False from e).elim
theorem Rn(ha:PE X a ta)(he:∀whole,isTrue a X.env whole=(do let v ←whole;standAt a.pos;holding [v] (truthy v))):
 PT X a (λσ H Q=>ta σ H λx H'=>∃k,Kt X.K x H' k∧Q k H'):=by
 intro pins s σ H Q I h;exact isTrue_plain (EY (ha pins s σ H _ I h) λv s1 ⟨x,H1,I1,r1,q1⟩=>PM pins s1 σ H1 x v Q I1 r1 q1) (he _)
theorem Iq:FB X (binaryOp .Add) (λx y H Q=>∃i j,x= .str i∧y= .str j∧i.length+j.length≤Ak∧Q (.str (i++j)) H):=by intro pins s σ H x y v u Q I rx ry h;obtain⟨i,j,rfl,rfl,hz,q⟩:=h;obtain⟨t,rfl⟩:=rx;obtain⟨t',rfl⟩:=ry;exact add_str (λt' tk=>⟨.str (i++j),H,I.tok _,⟨_,rfl⟩,q⟩) hz
theorem Hq{x:V}(r:Vals [x] us):∃u,us=[u]∧RelV x u:=by
 cases r with
 | cons r1 r2=>cases r2;exact⟨_,rfl,r1⟩
theorem N4{x y:V}(r:Vals [x,y] us):∃u w',us=[u,w']∧RelV x u∧RelV y w':=by
 cases r with
 | cons r1 r2=>
  cases r2 with
  | cons r3 r4=>cases r4;exact⟨_,_,rfl,r1,r3⟩
theorem OK:GO X (.type "int") (λxs H Q=>(∃i,xs=[.int i]∧Q (.int i) H)∨∃k,xs=[.bl k]∧Q (.int (if k then 1 else 0)) H):=by
 intro pins s σ H xs us Q I r h;rcases h with⟨i,rfl,q⟩ | ⟨k,rfl,q⟩
 · obtain⟨u,rfl,t,rfl⟩:=Hq r;exact call_int_int ⟨.int i,H,I,⟨_,rfl⟩,q⟩
 · obtain⟨u,rfl,r1⟩:=Hq r;cases r1;exact call_int_bool ⟨.int (if k then 1 else 0),H,I.tok _,⟨_,rfl⟩,q⟩
end
structure ObjM(h:Heap)(x dx C:Addr)(mA:Str→Option Value):Prop where
 obj:h.get? x=some (Df C dx)
 ns:h.Ns1 dx mA
 ne:dx≠x
theorem Rb{dx:Addr}{mA:Str→Option Value}(n:h.Ns1 dx mA):∃od,h.get? dx=some od∧∀name,Dw name od=some (mA name):=by
 obtain⟨o,es,ep,ho,hd,hk,_,hm⟩:=n;refine⟨o,ho,λname=>?_⟩;have e:=hm name;unfold nsFind findBy at e;rw[←Array.find?_toList] at e;unfold Dw;rw[hd];dsimp only
 split
 · rename_i y q;rw[q] at e;exact congrArg some e
 · rename_i q;rw[q] at e;have a:es.toList.any (·.refKey)=false:=by
    rw[List.any_eq_false];intro y hy;obtain⟨z,t,hkey⟩:=hk y (Array.mem_toList_iff.mp hy);simp[DictEntry.refKey,hkey]
   have a':¬es.toList.any (·.refKey)=true:=by rw[a];exact Ar
   rw[if_neg a'];exact congrArg some e
theorem ObjM.look{x dx C:Addr}{mA:Str→Option Value}(I:ObjM h x dx C mA):∃od,PySem.W.InstAt h x (Df C dx) C (some od)∧∀name,Dw name od=some (mA name):=
 let⟨od,ho,hl⟩:=Rb I.ns
 ⟨od,⟨I.obj,rfl,rfl,ho⟩,hl⟩
section
variable{x dx C f:Addr}{mA:Str→Option Value}{name:Str}{v:Value}
end
section
variable{H H':Hp}{h':Heap}{C dx:Addr}{fs fs':List (Str×V)}
theorem PZ(hok:HOk P w H h)(e:H a=some (.ins C dx fs)):∃mA,ObjM h a dx C mA∧(∀f,Jc (fs.lookup f) (mA f))∧PySem.Within mA (fs.map (·.1))∧fs.length≤1000∧H dx=some (.own a):=by obtain⟨d,z,ne,ob,mA,n,r,q⟩:=(show ObjOk P w H h a (.ins C dx fs) from hok a _ e);exact⟨mA,⟨ob,n,ne⟩,r,q,z,d⟩
end
structure Cls(K:Ad)(C:Addr):Prop where
 pg:PySem.W.plainGet K C Str.empty=true
 hd:PySem.W.hasDictIn K C=true
 po:PySem.W.plainOver K C=true
 sa:PySem.W.findIn K (.ref C) "__setattr__"=some (some (.builtin "object.__setattr__"))
theorem Cls.get{C:Addr}(c:Cls K C)(f:Str):PySem.W.plainGet K C f=true:=c.pg
section
variable{X:Cx}{σ:St}{H:Hp}{C dx:Addr}{fs:List (Str×V)}{f:Str}{v:V}
end
section
variable{X:Cx}{o value:Expr}{f:Str}{pos' tpos:Pos}{ta tv:TE}
end
section
variable{X:Cx}{σ:St}{H:Hp}{Q:Value→Shared→Prop}{c:Value}{b:Bool}
inductive TyOf(K:Ad)(H:Hp):V→Value→Prop where
 | non:TyOf K H .non (.type "NoneType")
 | bl (x:Bool):TyOf K H (.bl x) (.type "bool")
 | int (i:Int):TyOf K H (.int i) (.type "int")
 | str (x:Str):TyOf K H (.str x) (.type "str")
 | flt (x:UInt64):TyOf K H (.flt x) (.type "float")
 | lst {a:Addr} {xs:List V} (e:H a=some (.lst xs)):TyOf K H (.ref a) (.type "list")
 | frz {a:Addr} {o:Obj} {xs:List V} (e:H a=some (.frz o (.lst xs))):TyOf K H (.ref a) (.type "list")
 | tup {a:Addr} {xs:List V} (e:H a=some (.tup xs)):TyOf K H (.ref a) (.type "tuple")
 | dK {a:Addr} {kvs:List (Gi×V)} (e:H a=some (.dK kvs)):TyOf K H (.ref a) (.type "dict")
 | dT {a:Addr} {kvs:List (List Gi×V)} (e:H a=some (.dT kvs)):TyOf K H (.ref a) (.type "dict")
 | ins {a C dx:Addr} {fs:List (Str×V)} (e:H a=some (.ins C dx fs)) (cl:Cls K C) (ha:PySem.W.findIn K (.ref C) "__class__"=some (some (.builtin "object.__class__")))
  (hn:PySem.W.specialIn K (.builtin "object.__class__") "__get__"=some (some (.builtin "getset_descriptor.__get__"))) (htk:PySem.W.takesIn K (.builtin "object.__class__")=some true)
  (hm:PySem.W.mroIn K C (.type "object")=some true):TyOf K H (.ref a) (.ref C)
theorem Q_{x:V}{t:Value}(I:Inv X pins σ H s)(rx:RelV x u)(ty:TyOf X.K H x t)(e:Ce X.K t c=some b)(h:∀tk,Q (.bool b) {s with toks:=tk}):
 wpAny (model X.prog X.w) A (call (.builtin "isinstance") [u,c]) Q E s:=by
 cases ty with
 | non=>cases(show u=Value.none from rx);exact AR PySem.W.kitx_none I.kIn True.intro e (λz=>nomatch z) h
 | bl y=>cases(show u=Value.bool y from rx);exact AR PySem.W.kitx_bool I.kIn True.intro e (λz=>nomatch z) h
 | int i=>obtain⟨t,q⟩:=(show ∃t,u=Value.int i t from rx);cases q;exact AR PySem.W.kitx_int I.kIn True.intro e (λz=>nomatch z) h
 | str y=>obtain⟨t,q⟩:=(show ∃t,u=Value.str y t from rx);cases q;exact AR PySem.W.kitx_str I.kIn True.intro e (λz=>nomatch z) h
 | flt y=>obtain⟨t,q⟩:=(show ∃t,u=Value.float y t from rx);cases q;exact AR PySem.W.kitx_float I.kIn True.intro e (λz=>nomatch z) h
 | @lst a xs ea=> cases(show u=Value.ref a from rx);obtain⟨_,_,n,_,h1⟩:=(show ObjOk X.prog X.w H s.heap a (.lst xs) from I.hok a _ ea);exact AR PySem.W.kitx_list I.kIn ⟨_,h1,rfl⟩ e (λz=>nomatch z) h
 | @frz a ob xs ea=> cases(show u=Value.ref a from rx);obtain⟨_,_,_,n,_,h1⟩:=(show ObjOk X.prog X.w H s.heap a (.frz ob (.lst xs)) from I.hok a _ ea);exact AR PySem.W.kitx_list I.kIn ⟨_,h1,rfl⟩ e (λz=>nomatch z) h
 | @tup a xs ea=> cases(show u=Value.ref a from rx);obtain⟨_,_,_,p⟩:=(show ObjOk X.prog X.w H s.heap a (.tup xs) from I.hok a _ ea);obtain⟨o,h1,h2,_⟩:=p;exact AR PySem.W.kitx_tuple I.kIn ⟨o,h1,h2⟩ e (λz=>nomatch z) h
 | @dK a kvs ea=> cases(show u=Value.ref a from rx);obtain⟨_,_,vs,_,p⟩:=(show ObjOk X.prog X.w H s.heap a (.dK kvs) from I.hok a _ ea);obtain⟨o,es,ep,h1,h2,_⟩:=p;exact AR PySem.W.kitx_dict I.kIn ⟨o,h1,h2.1⟩ e (λz=>nomatch z) h
 | @dT a kvs ea=> cases(show u=Value.ref a from rx);obtain⟨_,_,xs,_,o,es,ep,h1,h2,_⟩:=(show ObjOk X.prog X.w H s.heap a (.dT kvs) from I.hok a _ ea);exact AR PySem.W.kitx_dict I.kIn ⟨o,h1,h2.1⟩ e (λz=>nomatch z) h
 | @ins a C dx fs ea cl ha hn htk hm=> cases(show u=Value.ref a from rx);obtain⟨mA,O,_⟩:=PZ I.hok ea;obtain⟨od,J,_⟩:=O.look;exact AR (PySem.W.kitx_own (cl.get _) cl.hd ha hn htk hm) I.kIn J e (λz=>nomatch z) h
end
structure Room(k:Nat)(A:Be):Prop where
 hd:A.handled=none
 dp:A.depth+3*k+5<recursionLimit
 un:A.units+16*k+200<cLine
 gd:A.guards=some []
theorem Room.mono{j:Nat}(r:Room k A)(h:j≤k):Room j A:=⟨r.hd,by have:=r.dp;omega,by have:=r.un;omega,r.gd⟩
theorem Room.deeper(r:Room (k+1) A)(env:Env):Room k (A.deeper env):=
 ⟨r.hd,by have:=r.dp;show A.depth+1+3*k+5<_;omega,by have:=r.un;show A.units+3+16*k+200<_;omega,r.gd⟩
theorem Room.depth(r:Room k A):A.depth<recursionLimit:=by have:=r.dp;omega
theorem Room.units(r:Room k A):A.units+64<cLine:=by have:=r.un;omega
def Go:TA:=λ_ H Q=>Q [] H
def GK(ta:TE)(tr:TA):TA:=λσ H Q=>ta σ H λx H1=>tr σ H1 λxs H2=>Q (x::xs) H2
section
variable{X:Cx}{es:List Expr}{te:TE}{t:TA}
theorem EM:PA X [] Go:=λ_ _ _ _ H Q I h=>Calls.spliced_nil ⟨[],H,I,.nil,h⟩
theorem EJ(ha:PE X e te)(hr:PA X es t)(hs:Av (e::es) X.env=(false,eval e X.env)::Av es X.env:=by rfl):PA X (e::es) (GK te t):=by intro pos pins s σ H Q I h;rw[hs];show wpAny _ _ (spliced ((false,eval e X.env)::backTo pos (Av es X.env))) _ _ s;refine Calls.spliced_cons (EY (ha pins s σ H _ I h) λu s1 ⟨x,H1,I1,r1,q1⟩=>?_);exact EY (hr pos pins s1 σ H1 _ I1 q1) λus s2 ⟨xs,H2,I2,r2,q2⟩=>⟨x::xs,H2,I2,.cons r1 r2,q2⟩
def ME(t:TA):TE:=λσ H Q=>t σ H λxs H1=>xs.length≤Ak∧∀p,H1 p=none→Q (.ref p) (EO H1 p (.tup xs))
def G9(t:TA):TE:=λσ H Q=>t σ H λxs H1=>xs.length≤Ak∧∀p,H1 p=none→Q (.ref p) (EO H1 p (.lst xs))
theorem FW{x1}(h:PA X es t):PE X (.Tuple es x1 pos) (ME t):=by intro pins s σ H Q I hq;refine wpAny_Tuple_spliced (EY (h pos pins s σ H _ I hq) λus s1 ⟨xs,H1,I1,r,z,q⟩=>⟨by rw[←r.length];exact z,?_⟩);have hf:H1 s1.heap.objs.size=none:=I1.hok.fresh (Ae _);refine⟨.ref s1.heap.objs.size,EO H1 s1.heap.objs.size (.tup xs),I1.laid (t':=s1.toks) (λb u e=>Ac _ e) (Ae _) ?_,rfl,q _ hf⟩;exact⟨z,us,r,⟨_,An _ rfl,rfl,rfl,_,rfl⟩⟩
theorem Gk(h:PA X es t):PE X (.List es pos) (G9 t):=by intro pins s σ H Q I hq;refine wpAny_List_spliced (EY (h pos pins s σ H _ I hq) λus s1 ⟨xs,H1,I1,r,z,q⟩=>⟨by rw[←r.length];exact z,?_⟩);have hf:H1 s1.heap.objs.size=none:=I1.hok.fresh (Ae _);refine⟨.ref s1.heap.objs.size,EO H1 s1.heap.objs.size (.lst xs),I1.laid (t':=s1.toks) (λb u e=>Ac _ e) (Ae _) ?_,rfl,q _ hf⟩;exact⟨z,us,0,r,An _ rfl⟩
end
abbrev Sp:=List V→Hp→VK→XK→Prop
abbrev GX:=List Env→Hp→Shared→XK→Value→Shared→Prop
structure Env0(P:A_)(w:World)(K:Ad)(mg:Str→Option Value)(base:Heap)(A:Be)(outer:List Env)(s:Shared)(H:Hp):Prop where
 frames:A.frames=some outer
 mod:Mod K mg base
 bs:∀b o,base.get? b=some o→s.heap.get? b=some o∧H b=none
 bsz:base.objs.size≤s.heap.objs.size
 funs:s.heap.FunFrames base outer
 frf:∀b∈Hi outer,H b=none
 hok:HOk P w H s.heap
 bare:AllBare s.gens
def CE(outer:List Env)(P:A_)(w:World)(H:Hp)(s:Shared)(Q:VK)(u:Value)(s':Shared):Prop:=
 ∃v H',s'.os=s.os∧AllBare s'.gens∧Un (Hi outer) [] H H' s.heap s'.heap∧HOk P w H' s'.heap∧RelV v u∧Q v H'
def CR(CX:GX)(outer:List Env)(P:A_)(w:World)(H:Hp)(s:Shared)(Q:VK)(E:XK)(r:Result)(s':Shared):Prop:=
 match r with
 | .ok (.ret u)=>CE outer P w H s Q u s'
 | .ok _=>False
 | .error e=>CX outer H s E e s'
structure FnOk(P:A_)(w:World)(K:Ad)(mg:Str→Option Value)(base:Heap)(CX:GX)(k:Nat)(f:Addr)(fd:AJ)(ps:List Str)(sp:Sp):Prop where
 len:∀vs H Q E,sp vs H Q E→vs.length=ps.length
 run:∀(A:Be)(outer:List Env)(s:Shared)(H:Hp)(args:Args)(us:List Value)(vs:List V)(Q:VK)(E:XK),Room k A→Env0 P w K mg base A outer s H→BindsTo s fd args (ps.zip us)→Vals vs us→sp vs H Q E→
  codeAny (model P w) A (.call (.ref f) args) (CR CX outer P w H s Q E) s
theorem FnOk.mono{mg:Str→Option Value}{base:Heap}{CX:GX}{j:Nat}{f:Addr}{fd:AJ}{ps:List Str}{sp:Sp}(F:FnOk P w K mg base CX j f fd ps sp)(h:j≤k):
 FnOk P w K mg base CX k f fd ps sp:=⟨F.len,λA outer s H args us vs Q E hr=>F.run A outer s H args us vs Q E (hr.mono h)⟩
section
variable{X:Cx}{σ:St}{H:Hp}{s':Shared}
theorem Inv.env0(I:Inv X pins σ H s):Env0 X.prog X.w X.K X.mg X.base X.A X.stack s H:=
 ⟨I.ok.frames,I.ok.mod,I.bs,AV I.ok.bsz I.sz,I.stack,I.stkFree,I.hok,I.bare⟩
theorem Inv.after{Q:VK}(I:Inv X pins σ H s)(h:CE X.stack X.prog X.w H s Q u s'):EP X pins σ Q u s':=by obtain⟨v,H',os,bare,un,hok,r,q⟩:=h;obtain⟨hh,g,d,t,os'⟩:=s';obtain rfl:os'=s.os:=os;exact⟨v,H',I.call (h':=hh) (g':=g) (d':=d) (t':=t) (ch:=[]) un hok bare (λb z=>absurd z (by simp)),r,q⟩
end
def Jk(sp:Sp)(dvs:List V)(E:XK)(t:TA):TE:=λσ H Q=>t σ H λvs H1=>sp (vs++dvs) H1 Q E
def Binds(K:Ad)(fd:AJ)(ps:List Str)(ds:List Value):Prop:=
 ∀(s:Shared)(us:List Value),K.In s.heap→(us++ds).length=ps.length→BindsTo s fd ⟨us,[]⟩ (ps.zip (us++ds))
theorem Binds.all{fd:AJ}{ps:List Str}(h:∀us:List Value,us.length=ps.length→bindArgs fd ⟨us,[]⟩=pure (ps.zip us)):Binds K fd ps []:=λs us _ hl=>by rw[Dh] at hl ⊢;exact .of_eq (h us hl)
def LD(CX:GX)(X:Cx)(E:XK):Prop:=∀(pins:List (Addr×Obj))(σ:St)(H:Hp)(s:Shared)(e:Value)(s':Shared),Inv X pins σ H s→CX X.stack H s E e s'→X.xe e s'
section
variable{X:Cx}{CX:GX}{f C:Addr}{fd:AJ}{ps:List Str}{sp:Sp}{dvs:List V}{ds:List Value}{E:XK}{x m:Str}{p apos:Pos}{o:Expr}{es:List Expr}{ta:TE}{t:TA}
theorem NH{pins:List (Addr×Obj)}{σ:St}{H:Hp}{s:Shared}{Q:VK}{us:List Value}{vs:List V}(F:FnOk X.prog X.w X.K X.mg X.base CX k f fd ps sp)(hr:Room k X.A)(hb:Binds X.K fd ps ds)(hd:Vals dvs ds)(hx:LD CX X E)
 (I:Inv X pins σ H s) (r:Vals vs us) (h:sp (vs++dvs) H Q E):wpAny (model X.prog X.w) X.A (call (.ref f) us) (EP X pins σ Q) X.xe s:=by
 have r2:Vals (vs++dvs) (us++ds):=r.append hd;have hl:(us++ds).length=ps.length:=by rw[←r2.length];exact F.len _ _ _ _ h
 refine wpAny_call (BX (F.run X.A X.stack s H ⟨us,[]⟩ (us++ds) (vs++dvs) Q E hr I.env0 (hb s us I.kIn hl) r2 h) λr s' hq=>?_);cases r with
 | error e=>exact hx pins σ H s e s' I hq
 | ok fl=>
  cases fl with
  | ret u=>exact I.after hq
  | next=>exact Bx hq
  | brk=>exact Bx hq
  | cont=>exact Bx hq
theorem QC(F:FnOk X.prog X.w X.K X.mg X.base CX k f fd ps sp)(hr:Room k X.A)(hg:Gl X x)(hm:X.mg x=some (.ref f))(hk:BI X.K (.ref f)=true)(hb:Binds X.K fd ps ds)(hd:Vals dvs ds)(hx:LD CX X E)
 (ha:PA X (e::es) t) (hdb:(x==("__debug__":Str))=false:=by decide) (he:Av (e::es) X.env=(false,eval e X.env)::Av es X.env:=by rfl) (hpl:(backTo pos (Av es X.env)).any (·.1)=false:=by rfl):
 PE X (.Call (.Name x p) (e::es) [] pos) (Jk sp dvs E t):=by
 intro pins s σ H Q I h;refine Bk (Oe I hg hm ?_ hdb);refine PySem.W.callWith_K (h₀:=X.base) I.ok.mod.kin hk (EY (ha pos pins s σ H _ I h) λus s1 ⟨vs,H1,I1,r,q⟩=>⟨I1.kIn,?_⟩) he hpl;exact NH F hr hb hd hx I1 r q
end
section
variable{X:Cx}{CX:GX}{f C:Addr}{fd:AJ}{ps ks:List Str}{sp:Sp}{E:XK}{x m:Str}{p apos kpos:Pos}{o:Expr}{es:List Expr}{kws:List Keyword}{te ta:TE}{t tk:TA}{nm:Option Str}
variable{g:List Value→List Value→List Value}{gV:List V→List V→List V}
end
structure FnScope(N P:List Str)(sc:Scope):Prop where
 kind:sc.kind= .function
 co:sc.isCoroutine=false
 gen:sc.isGenerator=false
 nd:N.Nodup
 pre:N.take P.length=P
 par:∀x∈P,sc.names.lookup x=some .local∨sc.names.lookup x=some .cell
 nofree:∀y∈sc.names,y.2≠ .free
theorem OS{kindOf:Str→Option NameKind}{x:Str}:∀{binds:List (Str×Value)}{m:Str→Option Value},(∀v,(x,v) ∉ binds)→bindL kindOf binds m x=m x
 | [],_,_=>rfl
 | (n,v)::r,m,h=>by
  unfold bindL;rw[OS λw hw=>h w (A1 _ hw)]
  split
  · have:x≠n:=by rintro rfl;exact h v A6
    simp[this]
  · rfl
theorem OQ{kindOf:Str→Option NameKind}{x:Str}:∀{binds:List (Str×Value)}{m:Str→Option Value},(∀v,(x,v) ∉ binds)→bindC kindOf binds m x=m x
 | [],_,_=>rfl
 | (n,v)::r,m,h=>by
  unfold bindC;rw[OQ λw hw=>h w (A1 _ hw)]
  split
  · rfl
  · have:x≠n:=by rintro rfl;exact h v A6
    simp[this]
theorem OR{kindOf:Str→Option NameKind}{x:Str}{v:Value}:∀{P:List Str}{vs:List Value}{i:Nat}{m:Str→Option Value},P.Nodup→P[i]?=some x→vs[i]?=some v→kindOf x=some .local→
 bindL kindOf (P.zip vs) m x=some v
 | [],_,_,_,_,h,_,_=>by simp at h
 | _::_,[],_,_,_,_,h,_=>by simp at h
 | p::P,w::vs,0,m,nd,h1,h2,hk=>by simp at h1 h2;subst h1;subst h2;show bindL kindOf ((p,w)::P.zip vs) m p=_;unfold bindL;rw[OS λv hv=>(Ct.mp nd).1 (Di hv).1,if_pos hk];simp
 | p::P,w::vs,i+1,m,nd,h1,h2,hk=>by show bindL kindOf ((p,w)::P.zip vs) m x=_;unfold bindL;exact OR (i:=i) (Ct.mp nd).2 (by simpa using h1) (by simpa using h2) hk
theorem OP{kindOf:Str→Option NameKind}{x:Str}{v:Value}:∀{P:List Str}{vs:List Value}{i:Nat}{m:Str→Option Value},P.Nodup→P[i]?=some x→vs[i]?=some v→kindOf x≠some .local→
 bindC kindOf (P.zip vs) m x=some v
 | [],_,_,_,_,h,_,_=>by simp at h
 | _::_,[],_,_,_,_,h,_=>by simp at h
 | p::P,w::vs,0,m,nd,h1,h2,hk=>by simp at h1 h2;subst h1;subst h2;show bindC kindOf ((p,w)::P.zip vs) m p=_;unfold bindC;rw[OQ λv hv=>(Ct.mp nd).1 (Di hv).1,if_neg hk];simp
 | p::P,w::vs,i+1,m,nd,h1,h2,hk=>by show bindC kindOf ((p,w)::P.zip vs) m x=_;unfold bindC;exact OP (i:=i) (Ct.mp nd).2 (by simpa using h1) (by simpa using h2) hk
def H_(N:List Str)(vs:List V):St:=vs.map some++List.replicate (N.length - vs.length) none
def GD(CX:GX)(P:A_)(w:World)(K:Ad)(mg:Str→Option Value)(base:Heap)(N:List Str)(qual:Str)(scope:Scope)(f:Addr)(cd:Value)(A:Be)(outer:List Env)(s:Shared)(H:Hp)(E:XK):Cx where
 prog:=P
 w:=w
 K:=K
 mg:=mg
 base:=base
 A:=A.deeper (envOfC qual scope s.heap.objs.size f cd)
 N:=N
 s₀:=s
 H₀:=H
 env:=envOfC qual scope s.heap.objs.size f cd
 outer:=outer
 stack:=envOfC qual scope s.heap.objs.size f cd::outer
 ex:=[]
 calm:=true
 fn:=λ_=>true
 pn:=[]
 xe:=λe s'=>wpAny (model P w) (A.deeper (envOfC qual scope s.heap.objs.size f cd)) (leaving (envOfC qual scope s.heap.objs.size f cd) e) (λ_ s''=>CX outer H s E e s'') (λe' s''=>CX outer H s E e' s'') s'
theorem OE{sc:Scope}{x:Str}(h:sc.names.lookup x=some .cell):∃c,(AS n sc.names []).lookup x=some c:=by have q:=Bs sc.names n [] (.inl h);exact BY.mp q
theorem QZ{CX:GX}{P:A_}{w:World}{K:Ad}{mg:Str→Option Value}{base:Heap}{N ps:List Str}{qual:Str}{scope:Scope}{f:Addr}{cd:Value}{A:Be}{outer:List Env}{s s1:Shared}{H:Hp}{E:XK}{us:List Value}{vs:List V}
 (S:FnScope N ps scope) (hd:A.handled=none) (e0:Env0 P w K mg base A outer s H) (hl:vs.length=ps.length) (r:Vals vs us)
 (x:InCallC s s.heap.objs.size (bindL (envOfC qual scope s.heap.objs.size f cd).kindOf (ps.zip us) λ_=>none) (AS (s.heap.objs.size+1) scope.names []) (bindC (envOfC qual scope s.heap.objs.size f cd).kindOf (ps.zip us) λ_=>none) s1):
 Inv (GD CX P w K mg base N qual scope f cd A outer s H E) [] (H_ N vs) H s1:=by
 have hpl:ps.length≤N.length:=by have:=congrArg List.length S.pre;rw[A4] at this;omega
 obtain⟨h1,tk,rfl,hk⟩:=x.done;have noA:∀b:Addr,b ∉ (GD CX P w K mg base N qual scope f cd A outer s H E).ex:=λb z=>absurd (show b∈([]:List Addr) from z) (by simp);refine⟨⟨e0.mod,S.kind,rfl,rfl,Ae _,λy z c h1 h2=>?_,λy hy=>?_,λy c _ h=>?_,λ_=>hd,Around.frames_deeper e0.frames,.inr ⟨rfl,rfl⟩,λb z=>absurd z (noA b),e0.bs,e0.bsz,λb _ _=>noA b,λb z=>absurd z (noA b),e0.funs,e0.frf⟩,
  rfl,e0.bare,Un.kept hk,⟨_,x.toInCall.ns,λi y v h1 h2 h3=>?_⟩,λy c h=>⟨_,x.cell y c h⟩,e0.hok.fresh (Ae _),λy c h=>?_,λp hp=>absurd (show p∈([]:List (Addr×Obj)) from hp) (by simp),e0.hok.kept hk,?_⟩
 · exact name_of_addr x.apart (BE h1) (BE h2)
 · have hy:scope.names.lookup y=some .cell∨scope.names.lookup y=some .free:=hy;rcases hy with hy | hy
   · exact OE hy
   · exact absurd rfl (S.nofree _ (BE hy))
 · exact AQ (x.above y c (BE h))
 · have hi:i<vs.length:=by
    unfold H_ at h2;by_cases hi:i<vs.length
    · exact hi
    · rw[CD (by simpa using hi)] at h2;rw[List.getElem?_replicate] at h2
      split at h2<;>cases h2
   have ha:vs[i]?=some v:=by
    unfold H_ at h2;rw[CP (by simpa using hi),A5] at h2;cases e:vs[i]? with
    | none=>rw[e] at h2;cases h2
    | some a=>rw[e] at h2;cases h2;rfl
   obtain⟨u,hu,rv⟩:=r.get ha;have hp:ps[i]?=some y:=by rw[←S.pre,List.getElem?_take_of_lt (by omega)];exact h1
   have ndP:ps.Nodup:=by rw[←S.pre];exact S.nd.sublist (List.take_sublist _ _)
   refine⟨u,rv,?_⟩;rcases S.par y (AO hp) with k | k
   · exact .inl ⟨k,OR ndP hp hu k⟩
   · obtain⟨c,e⟩:=OE (n:=s.heap.objs.size+1) k;refine .inr ⟨.inl k,c,e,?_⟩;have q:=x.cell y c e;rw[OP ndP hp hu (by show scope.names.lookup y≠_;rw[k];decide)] at q;exact q
 · exact e0.hok.fresh (AQ (x.above y c (BE h)))
 · unfold H_;show _=N.length;rw[Ai,Ab,List.length_replicate];omega
theorem P0{CX:GX}{P:A_}{w:World}{K:Ad}{mg:Str→Option Value}{base:Heap}{k:Nat}{f:Addr}{name qual:Str}{params:Arguments}{body:List Stmt}{scope:Scope}{dV kV doc pm cdv ct oc:Value}{an od:Option Addr}
 {osl:Array (Option Value)} {N ps:List Str} {sp:Sp} (lk:K.lookup f=some ⟨oc,od,.func (BK name qual params body scope dV kV doc pm an cdv ct),osl⟩) (hcd:Dx K cdv qual=true) (S:FnScope N ps scope)
 (len:∀vs H Q E,sp vs H Q E→vs.length=ps.length)
 (hbody:∀(A:Be)(outer:List Env)(s:Shared)(H:Hp)(vs:List V)(Q:VK)(E:XK),Room k (A.deeper (envOfC qual scope s.heap.objs.size f cdv))→sp vs H Q E→
  ∃t,PSs (GD CX P w K mg base N qual scope f cdv A outer s H E) body t∧t {nx:=λ_ H'=>Q .non H',rt:=Q} (H_ N vs) H):
 FnOk P w K mg base CX (k+1) f (BK name qual params body scope dV kV doc pm an cdv ct) ps sp:=by
 refine⟨len,λA outer s H args us vs Q E hr e0 hb r hsp=>?_⟩;have hl:=len _ _ _ _ hsp;have KX:K.In s.heap:=e0.mod.kin.keeps λb o e=>(e0.bs b o e).1;have lim:s.heap.NoLimit:=e0.mod.nolimit.keeps λb o e=>(e0.bs b o e).1;have hkind:∀y∈ps.zip us,scope.names.lookup y.1=some .local∨(scope.names.lookup y.1=some .cell∧((AS (s.heap.objs.size+1) scope.names []).lookup y.1).isSome=true):=λ⟨n,v⟩ hy=>by
  rcases S.par n (Di hy).1 with q | q
  · exact .inl q
  · exact .inr ⟨q,Bs _ _ _ (.inl q)⟩
 refine codeAny_call_function hr.depth (KX _ _ lk) rfl S.co S.gen rfl (PySem.W.codeRec_of KX hcd) (hb _ _ _ _ ?_);refine wpAny_newFunctionEnv_cells S.kind hkind λenv he s1 x=>?_;subst he;refine⟨lim.keeps x.toInCall.keep,codeAny_func ?_⟩;obtain⟨t,ht,hq⟩:=hbody A outer s H vs Q E (hr.deeper _) hsp;have I:Inv (GD CX P w K mg base N qual scope f cdv A outer s H E) [] (H_ N vs) H s1:=QZ S hr.hd e0 hl r x;refine Br (ht [] s1 (H_ N vs) H _ I hq) (λfl s' hs=>?_) λe s' hs=>hs;have fin:∀{σ':St}{H':Hp}{v:V}{u:Value},Inv (GD CX P w K mg base N qual scope f cdv A outer s H E) [] σ' H' s'→RelV v u→Q v H'→CE outer P w H s Q u s':=
  λ{σ' H' v u}J rv q=>⟨v,H',J.os,J.bare,J.base,J.hok,rv,q⟩
 cases fl with
 | ret u=> obtain⟨v,σ',H',J,rv,q⟩:=hs;exact fin J rv q
 | next=> obtain⟨σ',H',J,q⟩:=hs;exact fin (v:=V.non) (u:=Value.none) J rfl q
 | brk=> obtain⟨_,_,_,q⟩:=hs;exact Bx q
 | cont=> obtain⟨_,_,_,q⟩:=hs;exact Bx q
section
variable{X:Cx}{x:Str}{p:Pos}{es:List Expr}{t:TA}{id T:String}{r:List V→Hp→VK→Prop}
def JU(r:List V→Hp→VK→Prop)(t:TA):TE:=λσ H Q=>t σ H λvs H1=>r vs H1 Q
theorem Fb(hc:GO X (.builtin id) r)(hg:Gl X x)(hm:X.mg x=none)(hv:AA x=some (.builtin id))(ha:PA X (e::es) t)(hn:x≠"__name__":=by decide)(hdb:(x==("__debug__":Str))=false:=by decide)
 (he:Av (e::es) X.env=(false,eval e X.env)::Av es X.env:=by rfl) (hpl:(backTo pos (Av es X.env)).any (·.1)=false:=by rfl):PE X (.Call (.Name x p) (e::es) [] pos) (JU r t):=by
 intro pins s σ H Q I h;refine Bk (IF I hg hm hv ?_ hn hdb);exact Cu (EY (ha pos pins s σ H _ I h) λus s1 ⟨vs,H1,I1,r1,q1⟩=>hc pins s1 σ H1 vs us Q I1 r1 q1) he hpl
theorem Jq(hc:GO X (.type T) r)(hg:Gl X x)(hm:X.mg x=none)(hv:AA x=some (.type T))(ha:PA X (e::es) t)(hn:x≠"__name__":=by decide)(hdb:(x==("__debug__":Str))=false:=by decide)
 (he:Av (e::es) X.env=(false,eval e X.env)::Av es X.env:=by rfl) (hpl:(backTo pos (Av es X.env)).any (·.1)=false:=by rfl):PE X (.Call (.Name x p) (e::es) [] pos) (JU r t):=by
 intro pins s σ H Q I h;refine Bk (IF I hg hm hv ?_ hn hdb);exact Bt (EY (ha pos pins s σ H _ I h) λus s1 ⟨vs,H1,I1,r1,q1⟩=>hc pins s1 σ H1 vs us Q I1 r1 q1) he hpl
end
end L2
variable{H:L2.Hp}{X:L2.Cx}{σ:L2.St}{xs:List L2.V}{x:PySem.Str}
namespace HT
open PySem PyProof.Rows
section
open PySem.SeqAt
open PySem.AutoSeq1 (wpAny_loadPart')
open PySem.MeetsSeq PySem.MeetsSeq2 PySem.MeetsSeq3
end
theorem cat_tup{t:Addr}{vs ws:List Value}{Q:Value→Shared→Prop}(ht:IsTup s.heap t vs.toArray)(hb:IsTup s.heap b ws.toArray)(hv:vs≠[])
 (h1:ws=[]→Q (.ref t) s) (h2:ws≠[]→Q (.ref s.heap.objs.size) {s with heap:=s.heap.push {cls:= .type "tuple",data:= .seq (vs++ws).toArray}})
 (hsz:vs.length+ws.length≤Ak):wpAny (model prog w) A (binaryOp .Add (.ref t) (.ref b)) Q E s:=by
 obtain⟨⟨cls,dd,data,sl⟩,ho,hc,n,hd⟩:=id ht;obtain⟨⟨cls2,dd2,data2,sl2⟩,ho2,hc2,n2,hd2⟩:=id hb;simp only at hc hd hc2 hd2;subst hc hd hc2 hd2;have e:vs.toArray++ws.toArray=(vs++ws).toArray:=by simp
 by_cases hw:ws=[]
 · exact concat_meets ⟨_,ho,rfl⟩ ⟨_,ho2,rfl⟩ noFill_tuple_add seq_tuple_add Ck Cf (BZ _ _)
    (tuple_addW1 t b vs.toArray ws.toArray n n2 dd dd2 sl sl2 (by simpa using hv) (by simp[hw])) ⟨ho,ho2,h1 hw⟩
 · refine concat_meets ⟨_,ho,rfl⟩ ⟨_,ho2,rfl⟩ noFill_tuple_add seq_tuple_add Ck Cf (BZ _ _)
    (tuple_addW2 t b vs.toArray ws.toArray n n2 dd dd2 sl sl2 (by simpa using hv) (by simpa using hw) (by rw[Ag,Ag];exact hsz)) ⟨ho,ho2,?_⟩
   rw[e];exact h2 hw
def sIx(n d:Nat):Option Int→Nat
 | none=>d
 | some v=>if v<0 then(v+(n:Int)).toNat else min v.toNat n
theorem sIx_nat(n d k:Nat):sIx n d (some (k:Int))=min k n:=by
 show(if(k:Int)<0 then((k:Int)+(n:Int)).toNat else min (k:Int).toNat n)=min k n
 rw[if_neg (by omega),Ch]
theorem PJ(n d:Nat)(hd:d≤n)(o:Option Int):sIx n d o≤n:=by
 cases o with
 | none=>exact hd
 | some v=>
  show(if v<0 then(v+(n:Int)).toNat else min v.toNat n)≤n
  by_cases hv:v<0
  · rw[if_pos hv];omega
  · rw[if_neg hv];exact Nat.min_le_right _ _
theorem Oj(v:Int)(n d:Nat):(if v<0 then max (v+(n:Int)) 0 else min v (n:Int))=((sIx n d (some v):Nat):Int):=by
 show(if v<0 then max (v+(n:Int)) 0 else min v (n:Int))=(((if v<0 then(v+(n:Int)).toNat else min v.toNat n):Nat):Int)
 by_cases hv:v<0
 · simp only[if_pos hv];omega
 · simp only[if_neg hv];omega
theorem Sg(lo hi:Option Int)(n:Nat):BV lo hi 1 (n:Int)=(((sIx n 0 lo:Nat):Int),((sIx n n hi:Nat):Int)):=by
 have h1:¬((1:Int)<0):=by omega
 unfold BV;simp only[h1,if_false];refine Prod.ext ?_ ?_
 · cases lo with
   | none=>rfl
   | some v=>exact Oj v n 0
 · cases hi with
   | none=>rfl
   | some v=>exact Oj v n n
theorem RK(i j:Nat):By (i:Int) (j:Int) 1=j - i:=by
 unfold By;have h1:(1:Int)>0:=by omega
 simp only[h1,if_true,Int.ediv_one]
 split<;>omega
theorem OT{v:Value}{o:Option Int}{Q:Option Int→Shared→Prop}(p:IsPart v o)(h:Q o s):wpAny (model prog w) A (Builtin.Slice.slicePartIndex v) Q E s:=by
 cases p with
 | none=>exact slicePart_none h
 | int i t=>exact slicePart_int h
theorem sliceApplied_gen{sl:Addr}{vl vu:Value}{lo hi:Option Int}{n:Nat}{Q:Int×Int×Nat→Shared→Prop}(hs:s.heap.IsSliceOf sl vl vu .none)(pl:IsPart vl lo)(pu:IsPart vu hi)
 (h:Q (((sIx n 0 lo:Nat):Int),1,sIx n n hi - sIx n 0 lo) s):wpAny (model prog w) A (CF (.ref sl) (pure (n:Int))) Q E s:=by
 obtain⟨os,hos,hcs,hds⟩:=id hs;unfold CF Builtin.Slice.sliceFields;refine Aa (Aa (AG hos hds (x:=vl) rfl (Aa (AG hos hds (x:=vu) rfl (Aa (AG hos hds (x:= .none) rfl (Af ?_)))))));refine Aa (slicePart_none ?_);show wpAny _ _ (if((1:Int)==0)=true then _ else _) _ _ s
 rw[if_neg (by decide)];refine Aa (OT pl (Aa (OT pu (Aa (Af ?_)))));show wpAny _ _ (match BV lo hi 1 (n:Int) with | (lo,hi)=>pure (lo,(1:Int),By lo hi 1)) _ _ s
 rw[Sg lo hi n];show wpAny _ _ (pure (((sIx n 0 lo:Nat):Int),(1:Int),By ((sIx n 0 lo:Nat):Int) ((sIx n n hi:Nat):Int) 1)) _ _ s;rw[RK];exact Af h
theorem Rl(xs:Array Value)(i k:Nat):((Ba k).filterMap λ(m:Nat)=>xs[((i:Int)+(m:Int)*1).toNat]?).toArray=((xs.toList.drop i).take k).toArray:=by
 have e:(λ(m:Nat)=>xs[((i:Int)+(m:Int)*1).toNat]?)=λm=>xs[i+m]?:=by
  funext m;have:((i:Int)+(m:Int)*1).toNat=i+m:=by omega
  rw[this]
 rw[e];have:=pick_run xs i k;rw[List.filterMap_map] at this;have e2:((λx=>xs[x]?)∘λx=>i+x)=λm=>xs[i+m]?:=rfl;rw[e2] at this;rw[this]
theorem getItem_tuple_cut{t sl:Addr}{items:Array Value}{vl vu:Value}{lo hi:Option Int}{Q:Value→Shared→Prop}(ht:IsTup s.heap t items)(hs:s.heap.IsSliceOf sl vl vu .none)(pl:IsPart vl lo)(pu:IsPart vu hi)
 (hw:¬(sIx items.size 0 lo=0∧sIx items.size items.size hi=items.size))
 (h:Q (.ref s.heap.objs.size) {s with heap:=s.heap.push {cls:= .type "tuple",data:= .seq ((items.toList.drop (sIx items.size 0 lo)).take (sIx items.size items.size hi - sIx items.size 0 lo)).toArray}})
 (hsz:items.size≤Ak):wpAny (model prog w) A (getItem (.ref t) (.ref sl)) Q E s:=by
 have htake:sizeOk (.seq ((items.toList.drop (sIx items.size 0 lo)).take (sIx items.size items.size hi - sIx items.size 0 lo)).toArray):=by show((items.toList.drop (sIx items.size 0 lo)).take (sIx items.size items.size hi - sIx items.size 0 lo)).toArray.size≤Ak;rw[Ag,A4,AU,A3];omega
 have hj:sIx items.size items.size hi≤items.size:=PJ _ _ (Ae _) hi;obtain⟨os,hos,hcs,hds⟩:=id hs;have hTs:s.TypeIs (.ref sl) "slice":=⟨os,hos,hcs⟩;unfold getItem
 try with_reducible refine BR ?_
 first | refine Aa (Af ?_) | skip
 refine Aa (CK ht.typeIs (by decide) ?_);refine Aa (AT (name:=BL "__getitem__") ht.typeIs AN
  (Bq AN ht.typeIs entry_tuple_getitem ?_ (args_tuple_getitem _ _)))
 show wpAny _ _ (CG (.ref t)>>=_) _ _ s;refine Aa (tupleItemsOf_ ht ?_);refine Aa (Cv hTs ?_);rw[if_pos (by decide)];refine Aa (sliceApplied_gen hs pl pu ?_);have hno:¬((((sIx items.size 0 lo:Nat):Int)==0 && (1:Int)==1 && (sIx items.size items.size hi - sIx items.size 0 lo)==items.size)=true):=by intro q;rw[Ah,Ah] at q;have q1:((sIx items.size 0 lo:Nat):Int)=0:=eq_of_beq q.1.1;have q2:sIx items.size items.size hi - sIx items.size 0 lo=items.size:=eq_of_beq q.2;exact hw ⟨by omega,by omega⟩
 show wpAny _ _ (if(((sIx items.size 0 lo:Nat):Int)==0 && (1:Int)==1 && (sIx items.size items.size hi - sIx items.size 0 lo)==items.size)=true then _ else _) _ _ s
 rw[if_neg hno,Rl]
 first
  | exact Aa (m:=BC _) (Bp (Af ⟨_,rfl,Af h⟩) htake)
  | exact Aa (m:=BC _) (Bp (Aa (Af (Af ⟨_,rfl,Af h⟩))) htake)
  | exact Aa (Aa (m:=BC _) (Bp (Af (Af ⟨_,rfl,Af h⟩)) htake))
  | exact Aa (Aa (m:=BC _) (Bp (Af ⟨_,rfl,Af h⟩) htake))
end HT
namespace L2
abbrev TO:=St→Hp→(Option Int→Hp→Prop)→Prop
def PO(X:Cx)(e:Option Expr)(t:TO):Prop:=
 ∀(pins:List (Addr×Obj))(s:Shared)(σ:St)(H:Hp)(Q:Option Int→Hp→Prop),Inv X pins σ H s→t σ H Q→
  wpAny (model X.prog X.w) X.A (evalPart e X.env) (λu s'=>∃o H',Inv X pins σ H' s'∧IsPart u o∧Q o H') X.xe s
def Mc:TO:=λ_ H Q=>Q none H
def N3(t:TE):TO:=λσ H Q=>t σ H λx H1=>∃i,x= .int i∧Q (some i) H1
theorem Sj{ns:List Int}:∀{us:List Value},Vals (ns.map V.int) us→IntsAre us ns:=by
 induction ns with
 | nil=>intro us r;rw[List.map_nil] at r;cases r;exact .nil
 | cons n ns ih=>
  intro us r;rw[AH] at r;cases r with
  | cons r1 r2=> obtain⟨t,e⟩:=r1;subst e;exact .cons n t (ih r2)
section
variable{te:TE}{lo hi:Option Expr}{tl th:TO}{p2:Pos}
theorem FX:PO X none Mc:=by intro pins s σ H Q I h;rw[evalPart_none];exact Af ⟨none,H,I,.none,h⟩
theorem FL(h:PE X e te):PO X (some e) (N3 te):=by intro pins s σ H Q I hw;rw[evalPart_some];refine EY (h pins s σ H _ I hw) λu s1 ⟨x,H1,I1,r1,q1⟩=>?_;obtain⟨i,rfl,q⟩:=q1;obtain⟨t,rfl⟩:=r1;exact⟨some i,H1,I1,.int i t,q⟩
def Jv(X:Cx)(r:V→Option Int→Option Int→Hp→VK→Prop):Prop:=
 ∀(pins:List (Addr×Obj))(s:Shared)(σ:St)(H:Hp)(x:V)(v vl vu:Value)(lo hi:Option Int)(sl:Addr)(Q:VK),Inv X pins σ H s→RelV x v→s.heap.IsSliceOf sl vl vu .none→IsPart vl lo→IsPart vu hi→r x lo hi H Q→
  ∃T id,typeLookup (.type T) "__getitem__"=pure (some (.builtin id))∧s.TypeIs v T∧wpAny (model X.prog X.w) X.A (getItem v (.ref sl)) (EP X pins σ Q) X.xe s
def Pi(r:V→Option Int→Option Int→Hp→VK→Prop)(te:TE)(tl th:TO):TE:=λσ H Q=>te σ H λx H1=>tl σ H1 λl H2=>th σ H2 λu H3=>r x l u H3 Q
theorem FO{r:V→Option Int→Option Int→Hp→VK→Prop}(hr:Jv X r)(he:PE X e te)(hl:PO X lo tl)(hu:PO X hi th):PE X (.Subscript e (.Slice lo hi none p2) pos) (Pi r te tl th):=by
 intro pins s σ H Q I h;refine Subscript_ (EY (he pins s σ H _ I h) λv s1 ⟨x,H1,I1,r1,q1⟩=>?_);refine wpAny_Slice (EY (hl pins s1 σ H1 _ I1 q1) λvl s2 ⟨l,H2,I2,pl,q2⟩=>EY (hu pins s2 σ H2 _ I2 q2) λvu s3 ⟨u,H3,I3,pu,q3⟩=>?_);rw[evalPart_none];refine Af ?_;have I4:Inv X pins σ H3 {s3 with heap:=s3.heap.push {cls:= .type "slice",data:= .fields #[vl,vu,.none]}}:=I3.kept (t':=s3.toks) λb ob q=>Ac _ q
 obtain⟨T,id,hT,ht,hg⟩:=hr pins {s3 with heap:=s3.heap.push {cls:= .type "slice",data:= .fields #[vl,vu,.none]}} σ H3 x v vl vu l u s3.heap.objs.size Q I4 r1 (Heap.IsSliceOf.new ..) pl pu q3;show wpAny (model X.prog X.w) X.A (subscriptTail e (.Slice lo hi none p2) v (.ref s3.heap.objs.size)) (EP X pins σ Q) X.xe {s3 with heap:=s3.heap.push {cls:= .type "slice",data:= .fields #[vl,vu,.none]}};exact tail_any (ops:=[.ref s3.heap.objs.size,v]) ht hT hg (by with_unfolding_all rfl)
def Fk(xs:List V)(lo hi:Option Int):List V:=(xs.drop (HT.sIx xs.length 0 lo)).take (HT.sIx xs.length xs.length hi - HT.sIx xs.length 0 lo)
theorem GV(xs:List V)(lo hi:Option Int):(Fk xs lo hi).length≤xs.length:=by unfold Fk;rw[A4,AU];omega
def MP(K:Ad):V→Option Int→Option Int→Hp→VK→Prop:=λx lo hi H Q=>∃a xs,x= .ref a∧SqT K H a xs∧
 ¬(HT.sIx xs.length 0 lo=0∧HT.sIx xs.length xs.length hi=xs.length)∧∀p,H p=none→Q (.ref p) (EO H p (.tup (Fk xs lo hi)))
theorem PK:Jv X (MP X.K):=by
 intro pins s σ H x v vl vu lo hi sl Q I rx hs pl pu h;obtain⟨a,xs,rfl,hx,hw,q⟩:=h;cases rx;obtain⟨its,r,ht,hz⟩:=I.tuple hx;have hlen:its.toArray.size=xs.length:=by rw[Ag];exact r.length.symm
 refine⟨"tuple",_,AN.lookup,ht.typeIs,?_⟩;refine HT.getItem_tuple_cut ht hs pl pu (by rw[hlen];exact hw) ?_ (by rw[hlen];exact hz);rw[hlen];refine⟨.ref s.heap.objs.size,_,I.laid (t':=s.toks) (o:= .tup (Fk xs lo hi)) (λb ob q=>Ac _ q) (Ae _) ?_,rfl,q _ (I.hok.fresh (Ae _))⟩;exact⟨AV (GV xs lo hi) hz,_,(r.drop (HT.sIx xs.length 0 lo)).take (HT.sIx xs.length xs.length hi - HT.sIx xs.length 0 lo),IsTupP.new _ _⟩
theorem Vals.nil_iff(r:Vals xs us):us=[]↔xs=[]:=by
 cases r with
 | nil=>simp
 | cons _ _=>simp
end
def IY(n:Nat)(i:Int):Option Nat:=if 0≤i then(if i<n then some i.toNat else none) else if -(n:Int)≤i then some (i+n).toNat else none
def F_{α:Type}(xs:List α)(i:Int):Option α:=(IY xs.length i).bind λj=>xs[j]?
theorem Od{i:Int}{j:Nat}(h:IY n i=some j):seqIndex? i n=some j∧j<n∧ -(n:Int)≤i∧i<n:=by
 unfold IY at h;by_cases h0:0≤i
 · rw[if_pos h0] at h;by_cases h1:i<n
   · rw[if_pos h1] at h;have e:i.toNat=j:=A2 h;exact⟨by rw[seqIndex_of h0 h1,e],by omega,by omega,h1⟩
   · rw[if_neg h1] at h;cases h
 · rw[if_neg h0] at h;by_cases h1: -(n:Int)≤i
   · rw[if_pos h1] at h;have e:(i+n).toNat=j:=A2 h;exact⟨by rw[seqIndex_neg (by omega) h1,e],by omega,h1,by omega⟩
   · rw[if_neg h1] at h;cases h
theorem LR{α:Type}{xs:List α}{i:Int}{v:α}(h:F_ xs i=some v):∃j,seqIndex? i xs.length=some j∧xs[j]?=some v∧j<xs.length∧ -(xs.length:Int)≤i∧i<xs.length:=by
 unfold F_ at h;cases e:IY xs.length i with
 | none=>rw[e] at h;cases h
 | some j=> rw[e] at h;obtain⟨h1,h2,h3,h4⟩:=Od e;exact⟨j,h1,h,h2,h3,h4⟩
theorem Ib{α:Type}{xs:List α}{j:Nat}{v:α}(h:xs[j]?=some v):F_ xs (j:Int)=some v:=by
 have hj:j<xs.length:=(Az.mp h).1;have e:IY xs.length (j:Int)=some j:=by unfold IY;rw[if_pos (by omega),if_pos (by omega)];simp
 unfold F_;rw[e];exact h
def PR(b:Expr):Prop:=∀o i,subscripted b false o i=operate [o,i] (getItem o i)
def Jw(X:Cx)(r:R2):Prop:=
 ∀(value slice:Expr)(pins:List (Addr×Obj))(s:Shared)(σ:St)(H:Hp)(x y:V)(v u:Value)(Q:VK),Inv X pins σ H s→RelV x v→RelV y u→r x y H Q→
  subscripted slice false v u=operate [v,u] (getItem v u)→wpAny (model X.prog X.w) X.A (subscriptTail value slice v u) (EP X pins σ Q) X.xe s
def Pt(X:Cx)(id:String)(r:V→List V→Hp→VK→Prop):Prop:=
 ∀(pins:List (Addr×Obj))(s:Shared)(σ:St)(H:Hp)(x:V)(xs:List V)(v:Value)(us:List Value)(Q:VK),Inv X pins σ H s→RelV x v→Vals xs us→r x xs H Q→
  wpAny (model X.prog X.w) X.A (call (.builtin id) (v::us)) (EP X pins σ Q) X.xe s
section
variable{a b:Expr}{ta tb:TE}
theorem Fc{r:R2}(hr:Jw X r)(ha:PE X a ta)(hb:PE X b tb)(hs:PR b):PE X (.Subscript a b pos) (Hf r ta tb):=by intro pins s σ H Q I h;exact Subscript_ (Ja ha hb I h λv u s2 x y H2 I2 rx ry q=>hr a b pins s2 σ H2 x y v u Q I2 rx ry q (hs _ _))
def Ke(K:Ad):R2:=λx y H Q=>∃p xs i v,x= .ref p∧y= .int i∧SqL K H p xs∧F_ xs i=some v∧Q v H
def Kd(K:Ad):R2:=λx y H Q=>∃p xs i v,x= .ref p∧y= .int i∧SqT K H p xs∧F_ xs i=some v∧Q v H
def MS:R2:=λx y H Q=>∃z i c,x= .str z∧y= .int i∧z.length≤Ak∧F_ z.cps.toList i=some c∧Q (.str ⟨#[c]⟩) H
theorem FU:Jw X (Ke X.K):=by
 intro value slice pins s σ H x y v u Q I rx ry h hs;obtain⟨p,xs,i,z,rfl,rfl,hq,he,q⟩:=h;cases rx;obtain⟨t,rfl⟩:=ry;obtain⟨its,r,pl,hz⟩:=I.list hq;obtain⟨j,h1,h2,h3,h4,h5⟩:=LR he;obtain⟨w,ew,rw'⟩:=r.get h2;have hl:=r.length;have hn:=IG;have fin:EP X pins σ Q w s:=⟨z,H,I,rw',q⟩;by_cases h0:0≤i
 · have hj:i.toNat=j:=by
    rw[seqIndex_of h0 h5] at h1;exact A2 h1
   exact item_listR pl.isList h0 (by omega) (by rw[hj];simpa using ew) fin hs
 · have hj:(i+(its.toArray.size:Int)).toNat=j:=by
    rw[seqIndex_neg (by omega) h4] at h1;rw[Ag,←hl];exact A2 h1
   exact Dn (x:=w) pl.isList.typeIs slot_list_getitem.lookup
    (wpAny_getItem_list_neg (Q:=λr s'=>r=w∧EP X pins σ Q r s') pl.isList (by omega) (by rw[Ag]<;>omega) (by omega) (by rw[hj];simpa using ew) ⟨rfl,fin⟩) hs
theorem FN:Jw X (Kd X.K):=by
 intro value slice pins s σ H x y v u Q I rx ry h hs;obtain⟨p,xs,i,z,rfl,rfl,hq,he,q⟩:=h;cases rx;obtain⟨t,rfl⟩:=ry;obtain⟨its,r,pl,hz⟩:=I.tuple hq;obtain⟨j,h1,h2,h3,h4,h5⟩:=LR he;obtain⟨w,ew,rw'⟩:=r.get h2;have hl:=r.length;have hn:=IG;have fin:EP X pins σ Q w s:=⟨z,H,I,rw',q⟩;exact Dn (x:=w) pl.typeIs slot_tuple_getitem.lookup
  (getItem_tuple (j:=j) (Q:=λr s'=>r=w∧EP X pins σ Q r s') pl (by omega) (by omega) (by rw[Ag,←hl];exact h1) (by simpa using ew) ⟨rfl,fin⟩) hs
theorem LB:Jw X MS:=by
 intro value slice pins s σ H x y v u Q I rx ry h hs;obtain⟨z,i,c,rfl,rfl,hz,he,q⟩:=h;obtain⟨t,rfl⟩:=rx;obtain⟨t',rfl⟩:=ry;obtain⟨j,h1,h2,h3,h4,h5⟩:=LR he;have hl:z.cps.toList.length=z.length:=by simp[Str.length]
 rw[hl] at h1 h4 h5;have hn:=IG;exact tail_any (typeIs_str s z t) slot_str_getitem.lookup (getItem_str (c:=c) (by have e1:decide (i< -(2^63:Int))=false:=decide_eq_false (by omega);have e2:decide (i≥2^63)=false:=decide_eq_false (by omega);rw[e1,e2,Bool.or_false]) (by rw[h1];simpa using h2) ⟨.str ⟨#[c]⟩,H,I.tok _,⟨_,rfl⟩,q⟩) hs
theorem RA(its:List Value)(n j:Nat)(u:Value):Cw (·.setIfInBounds j u) {cls:= .type "list",data:= .seq its.toArray n}={cls:= .type "list",data:= .seq (its.set j u).toArray n}:=by simp[Cw]
theorem Inv.lst{p:Addr}(I:Inv X pins σ H s)(h:H p=some (.lst xs)):
 ∃(its:List Value)(n:Nat),Vals xs its∧s.heap.get? p=some {cls:= .type "list",data:= .seq its.toArray n}∧xs.length≤Ak:=by
 obtain⟨z,its,n,r,e⟩:=I.hok p _ h;exact⟨its,n,r,e,z⟩
theorem Inv.lstUpd{p:Addr}{ys:List V}{its its':List Value}{n n':Nat}{f:Obj→Obj}(I:Inv X pins σ H s)(h:H p=some (.lst xs))
 (ho:s.heap.get? p=some {cls:= .type "list",data:= .seq its.toArray n}) (hf:f {cls:= .type "list",data:= .seq its.toArray n}={cls:= .type "list",data:= .seq its'.toArray n'}) (r:Vals ys its') (hz:ys.length≤Ak) (t:Nat):
 Inv X pins σ (EO H p (.lst ys)) {s with heap:=s.heap.update p f,toks:=t}:=by
 have e:(s.heap.update p f).get? p=some {cls:= .type "list",data:= .seq its'.toArray n'}:=by rw[Dy f ho (by rw[hf]<;>rfl),hf]
 refine I.write (x:=p) (e:=p) (by rw[h];trivial) (.inl rfl) (λb u hb q=>(Do _ _ (Ne.symm hb)).trans q) ⟨_,e⟩ ?_;exact⟨hz,its',n',r,e⟩
def Qy:V→V→V→Hp→(Hp→Prop)→Prop:=λo i v H Q=>∃p xs k j,o= .ref p∧i= .int k∧H p=some (.lst xs)∧IY xs.length k=some j∧Q (EO H p (.lst (xs.set j v)))
theorem KO:Ku X Qy:=by
 intro pins s σ H o i v ov iv u Q I ro ri rv h;obtain⟨p,xs,k,j,rfl,rfl,hp,hj,q⟩:=h;cases ro;obtain⟨t,rfl⟩:=ri;obtain⟨its,n,r,ho,hz⟩:=I.lst hp;obtain⟨h1,h2,h3,h4⟩:=Od hj;have hl:=r.length;have hn:=IG;have I':Inv X pins σ (EO H p (.lst (xs.set j v))) {s with heap:=s.heap.update p (Cw (·.setIfInBounds j u))}:=
  I.lstUpd hp ho (RA its n j u) (r.set rv j) (by rw[List.length_set];exact hz) s.toks
 by_cases h0:0≤k
 · have hk:k.toNat=j:=by
    rw[seqIndex_of h0 h4] at h1;exact A2 h1
   exact PySem.W.ki_setAt ho h0 (by omega) (by rw[Ag,←hl];exact h4) (by rw[hk];exact⟨_,I',q⟩)
 · have hk:(k+(its.toArray.size:Int)).toNat=j:=by
    rw[seqIndex_neg (by omega) h3] at h1;rw[Ag,←hl];exact A2 h1
   exact PySem.W.ki_setBack ho (by omega) (by rw[Ag,←hl];exact h3) (by omega) (by rw[hk];exact⟨_,I',q⟩)
theorem To(lo hi:Option Int)(n:Nat):(sliceBounds lo hi none n).1=((HT.sIx n 0 lo:Nat):Int)∧(sliceBounds lo hi none n).2.1=((HT.sIx n n hi:Nat):Int)∧(sliceBounds lo hi none n).2.2=1:=by
 refine⟨?_,?_,rfl⟩
 · cases lo with
   | none=>simp[sliceBounds,HT.sIx]
   | some i=>
    simp only[sliceBounds,HT.sIx,CV,show(1:Int)>0 by decide,if_true];by_cases h:i<0
    · simp only[h,if_true]<;>omega
    · simp only[h,if_false]<;>omega
 · cases hi with
   | none=>simp[sliceBounds,HT.sIx]
   | some i=>
    simp only[sliceBounds,HT.sIx,CV,show(1:Int)>0 by decide,if_true];by_cases h:i<0
    · simp only[h,if_true]<;>omega
    · simp only[h,if_false]<;>omega
theorem SZ(its:List Value)(lo hi:Option Int):slicePick its.toArray lo hi none=((its.drop (HT.sIx its.length 0 lo)).take (HT.sIx its.length its.length hi - HT.sIx its.length 0 lo)).toArray:=by obtain⟨h1,h2,h3⟩:=To lo hi its.toArray.size;unfold slicePick;rw[h1,h2,h3];simp only[sliceRange_one,pick_run,Ag]<;>rfl
def MQ(K:Ad):V→Option Int→Option Int→Hp→VK→Prop:=λx lo hi H Q=>∃a xs,x= .ref a∧SqL K H a xs∧∀p,H p=none→Q (.ref p) (EO H p (.lst (Fk xs lo hi)))
theorem LP:Jv X (MQ X.K):=by intro pins s σ H x v vl vu lo hi sl Q I rx hs pl pu h;obtain⟨a,xs,rfl,hx,q⟩:=h;cases rx;obtain⟨its,r,ht,hz⟩:=I.list hx;have hlen:=r.length;refine⟨"list",_,slot_list_getitem.lookup,ht.isList.typeIs,?_⟩;refine wpAny_getItem_list_slice ht.isList hs pl pu .none (by simp) ?_ (by rw[Ag]<;>omega);rw[SZ,←hlen];refine⟨.ref s.heap.objs.size,_,I.laid (t':=s.toks) (o:= .lst (Fk xs lo hi)) (λb ob q=>Ac _ q) (Ae _) ?_,rfl,q _ (I.hok.fresh (Ae _))⟩;exact⟨AV (GV xs lo hi) hz,_,0,(r.drop (HT.sIx xs.length 0 lo)).take (HT.sIx xs.length xs.length hi - HT.sIx xs.length 0 lo),An _ rfl⟩
theorem Ti:FB X (AK .NotIn) (λx y H Q=>∃i j,x= .str i∧y= .str j∧Q (.bl (!(!(Da j i 0 j.length 1).isEmpty))) H):=by intro pins s σ H x y v u Q I rx ry h;obtain⟨i,j,rfl,rfl,q⟩:=h;obtain⟨t,rfl⟩:=rx;obtain⟨t',rfl⟩:=ry;exact notIn_str ⟨.bl _,H,I,rfl,q⟩
theorem Gj:GO X (.builtin "len") (λxs H Q=>∃p ys,xs=[.ref p]∧(SqL X.K H p ys∨SqT X.K H p ys)∧Q (.int ys.length) H):=by
 intro pins s σ H xs us Q I r h;obtain⟨p,ys,rfl,hq,q⟩:=h;obtain⟨u,rfl,rx⟩:=Hq r;cases rx;have hn:=IG;rcases hq with hq | hq
 · obtain⟨its,r',pl,hz⟩:=I.list hq;have hlen:=r'.length;exact Calls.call_len_list pl.isList (by simp only[Ag]<;>omega) ⟨.int ys.length,H,I.tok _,⟨s.toks+1,by rw[Ag,hlen]⟩,q⟩
 · obtain⟨its,r',pl,hz⟩:=I.tuple hq;have hlen:=r'.length;exact len_tuple pl (by simp only[Ag]<;>omega) ⟨.int ys.length,H,I.tok _,⟨s.toks+1,by rw[Ag,hlen]⟩,q⟩
theorem Lf:GO X (.builtin "len") (λxs H Q=>∃z,xs=[.str z]∧z.length≤Ak∧Q (.int z.length) H):=by intro pins s σ H xs us Q I r h;obtain⟨z,rfl,hz,q⟩:=h;obtain⟨u,rfl,t,rfl⟩:=Hq r;have hn:=IG;exact len_str (by omega) ⟨.int z.length,H,I.tok _,⟨_,rfl⟩,q⟩
theorem Pf:GO X (.type "list") (λxs H Q=>∃p ys,xs=[.ref p]∧(SqL X.K H p ys∨SqT X.K H p ys)∧∀l,H l=none→Q (.ref l) (EO H l (.lst ys))):=by
 intro pins s σ H xs us Q I r h;obtain⟨p,ys,rfl,hq,q⟩:=h;obtain⟨u,rfl,rx⟩:=Hq r;cases rx;have fin:∀(its:List Value),Vals ys its→ys.length≤Ak→∀(h':Heap)(c':Nat),(∀b o',s.heap.get? b=some o'→h'.get? b=some o')→
  h'.get? s.heap.objs.size=some {cls:= .type "list",dict:=none,data:= .seq its.toArray c',slots:=#[]}→EP X pins σ Q (.ref s.heap.objs.size) {s with heap:=h'}:=λits r' hz h' c' kp e=>
  ⟨.ref s.heap.objs.size,_,I.laid (t':=s.toks) kp (Ae _) (show ObjOk X.prog X.w _ h' _ (.lst ys) from⟨hz,its,c',r',e⟩),rfl,q _ (I.hok.fresh (Ae _))⟩
 rcases hq with hq | hq
 · obtain⟨its,r',pl,hz⟩:=I.list hq;have hlen:=r'.length;obtain⟨o,ho,hc,n,hd⟩:=pl.isList;exact call_list_seq p (.inl rfl) ho hc hd (λh' c' kp e=>fin its r' hz h' c' kp e) (by simp only[Ag]<;>omega)
 · obtain⟨its,r',pl,hz⟩:=I.tuple hq;have hlen:=r'.length;obtain⟨o,ho,hc,n,hd⟩:=pl;exact call_list_seq p (.inr rfl) ho hc hd (λh' c' kp e=>fin its r' hz h' c' kp e) (by simp only[Ag]<;>omega)
theorem Pe:GO X (.type "tuple") (λxs H Q=>∃p ys,xs=[.ref p]∧((SqL X.K H p ys∧∀l,H l=none→Q (.ref l) (EO H l (.tup ys)))∨(SqT X.K H p ys∧Q (.ref p) H))):=by
 intro pins s σ H xs us Q I r h;obtain⟨p,ys,rfl,h⟩:=h;obtain⟨u,rfl,rx⟩:=Hq r;cases rx;rcases h with⟨hq,q⟩ | ⟨hq,q⟩
 · obtain⟨its,r',pl,hz⟩:=I.list hq;have hlen:=r'.length;refine call_tuple_list pl.isList (λh' kp=>?_) (by simp only[Ag]<;>omega);have I1:Inv X pins σ H {s with heap:=h'}:=I.kept (t':=s.toks) kp;have I2:Inv X pins σ (EO H h'.objs.size (.tup ys)) {s with heap:=h'.push {cls:= .type "tuple",data:= .seq its.toArray}}:=
    I1.laid (t':=s.toks) (λb o e=>Ac _ e) (Ae _) (show ObjOk X.prog X.w _ _ _ (.tup ys) from⟨hz,its,r',IsTupP.new _ _⟩)
   exact⟨.ref h'.objs.size,_,I2,rfl,q _ (I1.hok.fresh (Ae _))⟩
 · obtain⟨its,r',pl,hz⟩:=I.tuple hq;exact call_tuple_same pl ⟨.ref p,H,I,rfl,q⟩
def MD(K:Ad)(T:String)(x:V)(H:Hp):Prop:=match x with
 | .str _=>T="str"
 | .int _=>T="int"
 | .ref p=>(T="list"∧∃xs,SqL K H p xs)∨(T="tuple"∧∃o,K.lookup p=some o∧o.cls= .type "tuple"∧o.dict=none)∨
  (T="dict"∧((∃kvs,H p=some (.dK kvs))∨∃kvs,H p=some (.dT kvs)))∨(T="set"∧∃S n,H p=some (.set S n))
 | _=>False
theorem NO{T:String}{x:V}{v:Value}(I:Inv X pins σ H s)(r:RelV x v)(ty:MD X.K T x H):
 s.TypeIs v T∧∀a,v= .ref a→∃ob,s.heap.get? a=some ob∧ob.dict=none:=by
 cases x with
 | str z=> obtain⟨t,rfl⟩:=r;cases(show T="str" from ty);exact⟨typeIs_str s z t,λ_ e=>nomatch e⟩
 | int i=> obtain⟨t,rfl⟩:=r;cases(show T="int" from ty);exact⟨typeIs_int s i t,λ_ e=>nomatch e⟩
 | ref p=>
  cases r;rcases ty with⟨rfl,xs,hq⟩ | ⟨rfl,o,hk,hc,hd⟩ | ⟨rfl,hk⟩ | ⟨rfl,S,n,hk⟩
  · obtain⟨its,_,pl,_⟩:=I.list hq;refine⟨pl.isList.typeIs,λa e=>?_⟩;cases e;obtain⟨o,n,e,c,hd,_⟩:=pl;exact⟨o,e,hd⟩
  · refine⟨⟨o,I.kIn p o hk,hc⟩,λa e=>?_⟩;cases e;exact⟨o,I.kIn _ o hk,hd⟩
  · have z:∃o,s.heap.get? p=some o∧o.ExactDict:=by
     rcases hk with⟨kvs,hk⟩ | ⟨kvs,hk⟩
     · obtain⟨_,_,_,_,o,_,_,e,ex,_⟩:=I.hok p _ hk;exact⟨o,e,ex⟩
     · obtain⟨_,_,_,_,o,_,_,e,ex,_⟩:=I.hok p _ hk;exact⟨o,e,ex⟩
    obtain⟨o,e,ex⟩:=z;refine⟨⟨o,e,ex.1⟩,λa e2=>?_⟩;cases e2;exact⟨o,e,ex.2.1⟩
  · obtain⟨o,_,_,_,e,ex,_⟩:=I.hok p _ hk;refine⟨⟨o,e,ex.1⟩,λa e2=>?_⟩;cases e2;exact⟨o,e,ex.2.1⟩
 | _=>exact Bx ty
def MI(K:Ad)(T:String)(r:V→List V→Hp→VK→Prop)(to:TE):TE:=λσ H Q=>to σ H λx H1=>MD K T x H1∧r x [] H1 Q
def TX(K:Ad)(T:String)(r:V→List V→Hp→VK→Prop)(to:TE)(t:TA):TE:=λσ H Q=>to σ H λx H1=>MD K T x H1∧t σ H1 λxs H2=>r x xs H2 Q
variable{o:Expr}{es:List Expr}{to:TE}{t:TA}{name:Str}{apos cpos:Pos}{T id:String}{r:V→List V→Hp→VK→Prop}
theorem Qu(pa:PlainAttrs T)(slot:Slot T name id)(hty:typeOf (.builtin id)=pure (.type "method_descriptor"))(hm:Pt X id r)(ho:PE X o to)
 (hbase:attributeBase o name X.env (eval o X.env)=eval o X.env:=by rfl) (hline:(apos.endLine==cpos.line)=true:=by rfl):PE X (.Call (.Attribute o name apos) [] [] cpos) (MI X.K T r to):=by
 intro pins s σ H Q I h;refine wpAny_Call_method0_late hbase hline (EY (ho pins s σ H _ I h) λv s1 ⟨x,H1,I1,r1,ty,q1⟩=>?_);obtain⟨h1,h2⟩:=NO I1 r1 ty;exact⟨T,id,pa,slot,hty,h1,h2,Dp rfl (PySem.evalArgs_none (hm pins s1 σ H1 x [] v [] Q I1 r1 .nil q1))⟩
theorem K5(pa:PlainAttrs T)(slot:Slot T name id)(hty:typeOf (.builtin id)=pure (.type "method_descriptor"))(hm:Pt X id r)(ho:PE X o to)(ha:PA X (e::es) t)
 (hbase:attributeBase o name X.env (eval o X.env)=eval o X.env:=by rfl)
 (hfew:((backTo cpos (Av (e::es) X.env)).all (λx=>!x.1) && (backToKw cpos (keywordEach [] X.env)).all (λx=>x.1.isSome)
  && decide ((e::es).length+([]:List Keyword).length+(if([]:List Keyword).isEmpty then 0 else 1)<30))=true:=by rfl)
 (hline:(apos.endLine==cpos.line)=true:=by rfl) (hs:Av (e::es) X.env=(false,eval e X.env)::Av es X.env:=by rfl) (hplain:(backTo cpos (Av es X.env)).any (·.1)=false:=by rfl):
 PE X (.Call (.Attribute o name apos) (e::es) [] cpos) (TX X.K T r to t):=by
 intro pins s σ H Q I h;refine wpAny_Call_method_late hbase hfew hline rfl (EY (ho pins s σ H _ I h) λv s1 ⟨x,H1,I1,r1,ty,q1⟩=>?_);obtain⟨h1,h2⟩:=NO I1 r1 ty;refine⟨T,id,pa,slot,hty,h1,h2,?_⟩;have hA:=ha cpos pins s1 σ H1 _ I1 q1;rw[hs] at hA ⊢;refine Dp (by show(false || (backTo cpos (Av es X.env)).any (·.1))=false;rw[hplain]<;>rfl) (Calls.evalArgs_plain ?_);exact EY hA λus s2 ⟨vs,H2,I2,r2,q2⟩=>hm pins s2 σ H2 x vs v us Q I2 r1 r2 q2
end
def Nr(X:Cx)(id:String)(r:V→List V→Hp→VK→Prop):Prop:=
 ∀(pins:List (Addr×Obj))(s:Shared)(σ:St)(H:Hp)(x:V)(xs:List V)(v:Value)(us:List Value)(Q:VK),Inv X pins σ H s→RelV x v→Vals xs us→r x xs H Q→
  wpAny (model X.prog X.w) X.A (call (.builtin id) (v::us)) (EP X pins σ Q) X.xe s
theorem Vals.one:∀{x:V}{us:List Value},Vals [x] us→∃u,us=[u]∧RelV x u
 | _,_,.cons r .nil=>⟨_,rfl,r⟩
theorem Vals.zero:∀{us:List Value},Vals [] us→us=[]
 | _,.nil=>rfl
section
variable{l:Addr}{ys zs:List V}
theorem Inv.lset{its its':List Value}{n:Nat}{f:Array Value→Array Value}{t':Nat}(I:Inv X pins σ H s)(hH:H l=some (.lst xs))
 (e:s.heap.get? l=some {cls:= .type "list",data:= .seq its.toArray n}) (hf:f its.toArray=its'.toArray) (hv:Vals ys its') (hz:ys.length≤Ak):
 Inv X pins σ (EO H l (.lst ys)) {s with heap:=s.heap.update l (Cw f),toks:=t'}:=by
 have q:=PySem.IsL.update e f;rw[hf] at q;refine I.write (x:=l) (e:=l) (by rw[hH];exact trivial) (.inl rfl) (λb' u hb hu=>(Do s.heap (Cw f) (Ne.symm hb)).trans hu) ⟨_,q⟩ ?_;exact⟨hz,its',_,hv,q⟩
theorem Inv.lnew{its:List Value}{t':Nat}(I:Inv X pins σ H s)(hv:Vals ys its)(hz:ys.length≤Ak):
 Inv X pins σ (EO H s.heap.objs.size (.lst ys)) {s with heap:=s.heap.push {cls:= .type "list",data:= .seq its.toArray},toks:=t'}:=
 I.laid (λ_ _ q=>Ac _ q) (Ae _) ⟨hz,its,0,hv,An _ rfl⟩
theorem Inv.fresh(I:Inv X pins σ H s):H s.heap.objs.size=none:=I.hok.fresh (Ae _)
theorem Inv.lstM(I:Inv X pins σ H s)(hH:H l=some (.lst xs)):xs.length≤Ak∧∃(its:List Value)(n:Nat),Vals xs its∧xs.length=its.length∧s.heap.get? l=some {cls:= .type "list",data:= .seq its.toArray n}:=by obtain⟨z,its,n,r,e⟩:=I.hok l _ hH;exact⟨z,its,n,r,r.length,e⟩
theorem O3(h:n≤Ak):CW n=false:=by unfold CW;exact decide_eq_false (by omega)
end
def QF:V→List V→Hp→VK→Prop:=λx vs H Q=>∃l xs y,x= .ref l∧vs=[y]∧H l=some (.lst xs)∧xs.length<Ak∧Q .non (EO H l (.lst (xs++[y])))
theorem KU:Nr X "list.append" QF:=by intro pins s σ H x vs v us Q I rx rv h;obtain⟨l,xs,y,rfl,rfl,hH,hz,q⟩:=h;cases rx;obtain⟨u,rfl,ru⟩:=rv.one;obtain⟨z,its,n,r,hl,e⟩:=I.lstM hH;refine call_meets F.slot_list_append ⟨_,e,rfl⟩ F.entry_list_append (F.args_list_append_2 _ _) (PySem.list_append l its.toArray n u (by rw[Ag];omega)) ⟨e,?_⟩;refine⟨.non,_,I.lset (its':=its++[u]) hH e (by simp) (r.append (.cons ru .nil)) ?_,rfl,q⟩;rw[Ai,Cp];omega
def MV:R2:=λx y H Q=>∃l b xs zs,x= .ref l∧y= .ref b∧H l=some (.lst xs)∧H b=some (.lst zs)∧xs.length+zs.length≤Ak∧∀p,H p=none→Q (.ref p) (EO H p (.lst (xs++zs)))
theorem K7:FB X (binaryOp .Add) MV:=by
 intro pins s σ H x y v u Q I rx ry h;obtain⟨l,b,xs,zs,rfl,rfl,hH,hB,hz,q⟩:=h;cases rx;cases ry;obtain⟨z,its,n,r,hl,e⟩:=I.lstM hH;obtain⟨z2,its2,n2,r2,hl2,e2⟩:=I.lstM hB;refine PySem.P.add_list e e2 ?_ (by rw[Ag,Ag];omega);have ea:its.toArray++its2.toArray=(its++its2).toArray:=by simp
 rw[ea];exact⟨.ref _,_,I.lnew (t':=s.toks) (r.append r2) (by rw[Ai];omega),rfl,q _ I.fresh⟩
theorem Sh{a c:Nat}(hac:a≤c)(hc:c≤n):sliceBounds (some (a:Int)) (some (c:Int)) none n=((a:Int),(c:Int),1):=by
 simp only[sliceBounds,CV];have h1:¬((a:Int)<0):=by omega
 have h2:¬((c:Int)<0):=by omega
 simp only[h1,h2,if_false,show(1:Int)>0 by decide,if_true];congr 1
 · omega
 · congr 1;omega
set_option maxRecDepth 100000 in
theorem HA{l b sl:Addr}{items new:Array Value}{n n2:Nat}{vl vu:Value}{a c:Nat}{Q:Unit→Shared→Prop}
 (e:s.heap.get? l=some {cls:= .type "list",data:= .seq items n}) (e2:s.heap.get? b=some {cls:= .type "list",data:= .seq new n2}) (hne:l≠b)
 (hs:s.heap.IsSliceOf sl vl vu .none) (pl:IsPart vl (some (a:Int))) (pu:IsPart vu (some (c:Int))) (hac:a≤c) (hc:c≤items.size)
 (hsz:items.size+new.size≤Ak) (h:Q () {s with heap:=s.heap.update l (Cw λxs=>xs.extract 0 a++new++xs.extract c xs.size)}):
 wpAny (model prog w) A (setItem (.ref l) (.ref sl) (.ref b)) Q E s:=by
 have hl:s.heap.IsList l items:=PySem.IsL.isList e;have hb:s.heap.IsList b new:=PySem.IsL.isList e2;obtain⟨os,hos,hcs,hds⟩:=id hs;have hTs:s.TypeIs (.ref sl) "slice":=⟨os,hos,hcs⟩;have hstep:¬((rawPart none==rawInt 0)=true):=Ar;have hsame:CY (.ref l) (.ref b)=false:=by unfold CY;exact beq_eq_false_iff_ne.mpr hne
 have hmax:(max (a:Int) (c:Int)).toNat=c:=by omega
 have hz':((λxs:Array Value=>xs.extract 0 a++new++xs.extract c xs.size) items).size≤Ak+1:=by simp only[Array.size_append,Array.size_extract];omega
 unfold setItem
 try with_reducible refine BR ?_
 first | refine Aa (Af ?_) | skip
 refine Aa (CK hl.typeIs (by decide) ?_);refine Aa (AT (name:=BL "__setitem__") hl.typeIs slot_list_setitem
  (Bq slot_list_setitem hl.typeIs entry_list_setitem ?_ (args_list_setitem _ _ _)))
 show wpAny _ _ (C7 (.ref sl)>>=_) _ _ s;refine Aa ?_;unfold C7;refine Aa (wpAny_specialOf hTs slice_no_index ?_);simp only[Option.isNone_none,if_true];refine Af ?_;show wpAny _ _ (typeOf (.ref sl)>>=_) _ _ s;refine Aa (Cv hTs ?_)
 first
  | rw[if_neg (by decide)]
  | refine C8 (by decide) ?_
 rw[listSliceParts_eq];refine Aa (Aa (AG hos hds (x:= .none) rfl (Aa (Dz .none ?_))));rw[if_neg hstep];refine Aa (AG hos hds (x:=vl) rfl (Aa (Dz pl ?_)));refine Aa (AG hos hds (x:=vu) rfl (Aa (Dz pu (Af ?_))))
 first
  | simp only[hsame,C9,if_false]
  | refine C8 hsame ?_
  | (dsimp only
     rw[if_neg (by rw[hsame];exact Ar)])
 refine Aa (m:=CQ (.ref b) "must assign iterable to extended slice") ?_;unfold CQ;refine Aa (Cv hb.typeIs ?_)
 first
  | refine PySem.W.KFB.if_so (by decide) ?_
  | rw[if_pos (by decide)]
  | simp only[beq_self_eq_true,Bool.true_or,if_true]
 unfold Builtin.List.listItems;refine Aa (Bb e2 rfl (Af ?_));refine Aa (Aa (Bb e rfl (Af ?_)));refine Aa (wpAny_of_eq ((sliceIndices_raw (some (a:Int)) (some (c:Int)) none items.size (by simp)).trans (congrArg (pure:Int×Int×Int→Sem (Int×Int×Int)) (Sh hac hc))) ?_);show wpAny _ _ (if((1:Int)==1)=true then _ else _) _ _ s
 rw[if_pos (by decide)];refine Aa (CS ?_)
 first
  | simp only[O3 hsz,C9,if_false]
  | refine C8 (O3 hsz) ?_
 first | refine Aa (Af ?_) | skip
 show wpAny _ _ (updateSeq l (λxs=>xs.extract 0 ((a:Int)).toNat++new++xs.extract (max (a:Int) (c:Int)).toNat xs.size)>>=_) _ _ s;rw[hmax,Ch];refine Aa (wpAny_updateSeq (hz:=AV (BP _ _) hsz) (_hz':=hz') e rfl ?_);refine Aa (Dq ?_)
 first
  | exact Aa (Af (Af ⟨.none,rfl,Af h⟩))
  | exact Af ⟨.none,rfl,Af h⟩
section
variable{κ:Type}[DecidableEq κ]
end
section
variable{y v:V}{r:Value}{o:Option V}
theorem Inv.big(I:Inv X pins σ H s):BO<s.heap.objs.size:=by have h:Al<s.heap.objs.size:=(I.mod.glob.keeps I.bk).lt;exact Bf (by decide) h
end
section
variable{kvs:List (Gi×V)}{k:Gi}
end
section
variable{o i value:Expr}{pos' tpos:Pos}{td ty tv:TE}
end
theorem Q8(h:Heap)(hb:BO<h.objs.size):ObjOk P w H (h.push {cls:= .type "dict",data:= .dict #[]}) h.objs.size (.dK []):=
 ⟨BA _,beq_eq_false_iff_ne.mpr (Ne.symm (Au hb)),[],.nil,Heap.DictOf.new h⟩
def PL:TE:=λ_ H Q=>∀p,H p=none→Q (.ref p) (EO H p (.dK []))
theorem Rk:PE X (.Dict [] [] pos) PL:=λpins s σ H Q I h=> wpAny_Dict_empty ⟨.ref s.heap.objs.size,_,I.laid (a:=s.heap.objs.size) (o:= .dK []) (t':=s.toks) (λ_ _ q=>Ac _ q) (Ae _) (Q8 s.heap I.big),rfl,h _ (I.hok.fresh (Ae _))⟩
structure M1(X:Cx)(o:Expr)(m:Str)(apos:Pos)(e:Expr)(cpos:Pos):Prop where
 base:attributeBase o m X.env (eval o X.env)=eval o X.env
 few:((backTo cpos (Av [e] X.env)).all (λx=>!x.1) && (backToKw cpos (keywordEach [] X.env)).all (λx=>x.1.isSome)
  && decide (([e]:List Expr).length+([]:List Keyword).length+(if([]:List Keyword).isEmpty then 0 else 1)<30))=true
 line:(apos.endLine==cpos.line)=true
 trees:backTo cpos (Av [e] X.env)=[(false,eval e X.env)]
structure M2(X:Cx)(o:Expr)(m:Str)(apos:Pos)(e f:Expr)(cpos:Pos):Prop where
 base:attributeBase o m X.env (eval o X.env)=eval o X.env
 few:((backTo cpos (Av [e,f] X.env)).all (λx=>!x.1) && (backToKw cpos (keywordEach [] X.env)).all (λx=>x.1.isSome)
  && decide (([e,f]:List Expr).length+([]:List Keyword).length+(if([]:List Keyword).isEmpty then 0 else 1)<30))=true
 line:(apos.endLine==cpos.line)=true
 trees:backTo cpos (Av [e,f] X.env)=[(false,eval e X.env),(false,eval f X.env)]
section
variable{y d:V}{r:Value}{o:Option V}
end
section
variable{o f:Expr}{apos cpos:Pos}{td ty tx:TE}
end
section
variable{kvs:List (Gi×V)}
end
section
variable{y:V}
end
end L2
namespace Att
open PySem PySem.W PySem.Calls PyProof.Rows
theorem Tq{P:Params}:∀(ns:List Int)(vs:List Value),WellAll P h vs (ns.map WData.int)→IntsAre vs ns:=by
 intro ns
 induction ns with
 | nil=> intro vs w;rw[List.map_nil] at w;cases w;exact .nil
 | cons n ns ih=>
  intro vs w;rw[AH] at w;cases w with
  | cons a b=> cases a;exact .cons _ _ (ih _ b)
theorem RW{l:OpenLaw}(hn:l.most=some n){P:Params}{h:Heap}{args:List WData}{vals:List Value}
 (hpre:l.row.toRowW.claim.pre args=true) (hwl:WellAll P h vals args):
 ∃a vs ns,vals=[Value.ref a]∧args=[WData.list (ns.map WData.int)]∧h.get? a=some {cls:= .type "list",data:= .seq vs.toArray}∧IntsAre vs ns∧ns.length≤n:=by
 have hsh:WShape.hasAll [] args [.list .int]=true:=(pre_splitW hpre).1;have hc:l.pre.holds [] {args:=args}=true:=(pre_splitW hpre).2;obtain⟨d,r,rfl,h1,h2⟩:=hasAllW_cons hsh;obtain rfl:=hasAllW_nil h2;obtain⟨xs,rfl,h3⟩:=hasW_list h1;obtain⟨ns,rfl⟩:=items_int h3;have hlen:ns.length≤n:=by
  unfold OpenLaw.pre at hc;have h4:(WTm.not (.lt (.lit (.int (n:Int))) (.len (.arg 0)))).holds [] {args:=[.list (ns.map .int)]}=true:=by have h4:=(holds_andW hc).1;rw[hn] at h4;exact h4
  have h5:=condW_of h4 (w_not (w_lt w_lit (w_len_list (w_arg rfl))));rw[Ab] at h5;refine Nat.le_of_not_lt λq=>?_;have q':(n:Int)<((ns.length:Nat):Int):=by omega
  first
   | (rw[decide_eq_true q'] at h5;exact absurd h5 (by decide))
   | (simp at h5;omega)
 cases hwl with
 | cons w1 w2=>
  cases w2;cases w1 with
  | list ho hall=>exact⟨_,_,ns,rfl,rfl,ho,Tq ns _ hall,hlen⟩
theorem Sn(l:OpenLaw)(args:List WData):l.row.toRowW.claim.post args (.bool true) args=true:=
 postW_of (r:=l.row.toRowW) (X:=(true==true))
  (show WShape.has [] (.bool true) .bool=true by first | rfl | decide | simp[WShape.has,WShape.arms,WShape.armsAll])
  (show(WTm.eq .res (.lit (.bool true))).value [] {args:=args,res:=some (.bool true),after:=args}=some (.bool (true==true)) from w_eq_bool (w_res rfl) w_lit) rfl
theorem attach_call{l:OpenLaw}{n:Nat}{q:A_}{loose:List Str}{XP:(Str→Option Value)→Heap→Prop}{YP:World→Heap→Prop}{d:DefRec}
 (hn:l.most=some n) (hdf:d.params.defaults=[])
 (call:∀(w:World)(s₀ s₁:Shared)(mg mb:Str→Option Value)(fa:Addr)(o:Obj)(pm cd doc:Value)(a:Addr)(vs:List Value)(ns:List Int),
  Ground q loose [] XP w s₀ mg mb s₁.heap→YP w s₁.heap→
  s₁.heap.get? fa=some o→o.data= .func (docDef d.name d.params d.body d.scope pm cd doc)→s₁.heap.CodeRec cd d.name→mg d.name=some (.ref fa)→
  s₁.heap.get? a=some {cls:= .type "list",data:= .seq vs.toArray}→IntsAre vs ns→ns.length≤n→s₁.gens=#[]→
  codeAny (model l.prog w) callerA (.call (.ref fa) ⟨[.ref a],[]⟩) (λr s'=>r= .ok (.ret (.bool true))∧OldK s₁.heap s'.heap∧s'.os=s₁.os∧AllBare s'.gens) s₁):
 WalkO q loose XP YP l.row.toRowW d [] (λf vs=>PySem.call f vs):=by
 intro w s₀ s₁ mg mb G Y fa o pm cd doc dV kV ho hd hcd hD hmg hg args vals as hpre hlay hrd hwl hlo;obtain rfl:dV= .none:=Dflts.none hD hdf;obtain rfl:kV= .none:=Dflts.noKw hD;obtain⟨a,vs,ns,rfl,rfl,hobj,hints,hlen⟩:=RW hn hpre hwl;refine enter_call (BX (call w s₀ s₁ mg mb fa o pm cd doc a vs ns G Y ho (fd_plain hd) hcd hmg hobj hints hlen hg) λr s' hq=>?_);obtain⟨rfl,h2,h3,h4⟩:=hq;exact⟨.inl ⟨.bool true,.bool true,[],rfl,λ_=>rfl,.bool true,Sn l _,λ_=>⟨List.Pairwise.nil,λ_ hm=>(nomatch hm)⟩⟩,h2,h3,h4⟩
section
variable{K:Frag}
end
end Att
namespace L2
theorem OI:∀{vs:List Value}{ns:List Int},IntsAre vs ns→Vals (ns.map V.int) vs
 | _,_,.nil=> .nil
 | _,_,.cons n t h=> .cons ⟨t,rfl⟩ (OI h)
def Jd(H:Hp):Prop:=∀b,H b=none∨∃o xs,H b=some (.frz o (.lst xs))
theorem R3{P:A_}{w:World}{K:Ad}{mg mb:Str→Option Value}{CX:GX}{k:Nat}{fa a:Addr}{fd:AJ}{x:Str}{sp:Sp}{s₁:Shared}{vs:List Value}{ns:List Int}
 (KX:K.In s₁.heap) (hns:s₁.heap.Ns Al mg) (hb:s₁.heap.Ns builtinsNs mb) (hbb:∀x:Str,x≠"__name__"→mb x=AA x) (hlim:s₁.heap.NoLimit) (hg:s₁.gens=#[])
 (ha:s₁.heap.get? a=some {cls:= .type "list",data:= .seq vs.toArray}) (hi:IntsAre vs ns) (hl:ns.length≤Ak) (hr:Room k callerA)
 (F:∀base:Heap,K.In base→base.Ns Al mg→FnOk P w K mg base CX k fa fd [x] sp) (hbind:∀(s:Shared)(u:Value),BindsTo s fd ⟨[u],[]⟩ [(x,u)])
 (hsp:∀H:Hp,Jd H→SqL K H a (ns.map V.int)→sp [.ref a] H (λv _=>v= .bl true) λ_ _ _=>False)
 (hCX:∀H e s',CX [] H s₁ (λ_ _ _=>False) e s'→False):
 codeAny (model P w) callerA (.call (.ref fa) ⟨[.ref a],[]⟩) (λr s'=>r= .ok (.ret (.bool true))∧OldK s₁.heap s'.heap∧s'.os=s₁.os∧AllBare s'.gens) s₁:=by
 have rv:=OI hi;have lenV:=hi.length;have core:∀H:Hp,Jd H→SqL K H a (ns.map V.int)→HOk P w H s₁.heap→(∀b,H b≠none→b=a)→(H a≠none→K.lookup a=none)→
  codeAny (model P w) callerA (.call (.ref fa) ⟨[.ref a],[]⟩) (λr s'=>r= .ok (.ret (.bool true))∧OldK s₁.heap s'.heap∧s'.os=s₁.os∧AllBare s'.gens) s₁:=by
  intro H hO hS hok hA hK;have base_of:∀{b:Addr}{o:Obj},s₁.heap.get? b=some o→H b=none→(Gx s₁.heap H).get? b=some o:=λe n=>QA e n;have noA:∀{b:Addr}{o:Obj}{es:Array Cq}{ep:Nat},s₁.heap.get? b=some o→o.data= .dict es ep→H b=none:=λ{b o es ep}e d=>by
   cases q:H b with
   | none=>rfl
   | some u=> have e':b=a:=hA b (by rw[q];simp);subst e';rw[ha] at e;cases e;have d':Data.seq vs.toArray _=Data.dict es ep:=d;cases d'
  have nsK:∀{b:Addr}{m:Str→Option Value},s₁.heap.Ns b m→(Gx s₁.heap H).Ns b m:=λ{b m} ⟨o,es,ep,e,d,r⟩=>⟨o,es,ep,base_of e (noA e d),d,r⟩;have hKb:K.In (Gx s₁.heap H):=λb o e=>base_of (KX b o e) (by
   cases q:H b with
   | none=>rfl
   | some u=> have e':b=a:=hA b (by rw[q];simp);subst e';rw[hK (by rw[q];simp)] at e;cases e)
  have hM:Mod K mg (Gx s₁.heap H):=⟨hKb,nsK hns,⟨mb,nsK hb,hbb⟩,let⟨mc,h1,h2⟩:=hlim;⟨mc,nsK h1,h2⟩⟩;have e0:Env0 P w K mg (Gx s₁.heap H) callerA [] s₁ H:=⟨rfl,hM,λb o e=>QV e,Nat.le_of_eq (QX _ _),trivial,λb hb=>absurd (show b∈([]:List Addr) from hb) (by simp),hok,.of_eq hg⟩;refine BX ((F _ hKb (nsK hns)).run callerA [] s₁ H ⟨[.ref a],[]⟩ [.ref a] [.ref a] _ _ hr e0 (hbind s₁ (.ref a)) (.cons rfl .nil) (hsp H hO hS)) λr s' h=>?_;cases r with
  | error e=>exact(hCX H e s' h).elim
  | ok fl=>
   cases fl with
   | next=>exact Bx h
   | brk=>exact Bx h
   | cont=>exact Bx h
   | ret u=>
    obtain⟨v,H',os,bare,un,hok',r',q⟩:=h;have q':v= .bl true:=q;subst q';obtain rfl:u=Value.bool true:=r';refine⟨rfl,OldK.of_keep λb o e=>?_,os,bare⟩;cases q:H b with
    | none=>exact un.keep b o e q (by intro z;exact absurd (show b∈([]:List Addr) from z) (by simp)) (by simp)
    | some u=>
     rcases hO b with z | ⟨ob,xs,z⟩
     · rw[q] at z;cases z
     · have z2:=un.frzs b ob _ z;obtain⟨e1,_⟩:=hok b _ z;obtain⟨e2,_⟩:=hok' b _ z2;rw[e] at e1;cases e1;exact e2
 cases hk:K.lookup a with
 | some o=> have e:=KX a o hk;rw[ha] at e;cases e;refine core (λ_=>none) (λ_=> .inl rfl) (.inr ⟨_,vs.toArray,_,hk,rfl,rfl,rfl,by rw[Ag,lenV];exact hl,by simpa using rv⟩) (λb u z=>by have z':(none:Option HO)=some u:=z;cases z') (λb z=>absurd rfl z) λz=>absurd rfl z
 | none=>
  refine core (λb=>if b=a then some (.frz {cls:= .type "list",data:= .seq vs.toArray} (.lst (ns.map V.int))) else none) (λb=>?_) (.inl (.inr ⟨{cls:= .type "list",data:= .seq vs.toArray},if_pos rfl⟩)) (λb u z=>?_) (λb z=>?_) λ_=>hk
  · by_cases hb:b=a
    · exact .inr ⟨_,_,if_pos hb⟩
    · exact .inl (if_neg hb)
  · by_cases hb:b=a
    · have z':=(if_pos hb).symm.trans z;cases z';subst hb;exact⟨ha,by rw[Ab];exact hl,vs,_,rv,ha⟩
    · have z':=(if_neg hb).symm.trans z;cases z'
  · by_cases hb:b=a
    · exact hb
    · exact absurd (if_neg hb) z
abbrev KOf{K:Ad}{h:Heap}(_:K.In h):Ad:=K
theorem walk_of{l:Dj}{n k:Nat}{q:A_}{loose:List Str}{XP:(Str→Option Value)→Heap→Prop}{YP:World→Heap→Prop}{d:DefRec}{K:Params→Ad}{CX:World→GX}{sp:World→Sp}{x:Str}
 (hn:l.most=some n) (hn2:n≤Ak) (hdf:d.params.defaults=[]) (hr:Room k callerA)
 (hY:∀(w:World)(h:Heap),YP w h→(K w.params).In h)
 (F:∀(w:World)(mg:Str→Option Value)(fa:Addr)(h:Heap),(K w.params).In h→h.Ns Al mg→mg d.name=some (.ref fa)→
  ∃fd:AJ,(∀(s:Shared)(u:Value),BindsTo s fd ⟨[u],[]⟩ [(x,u)])∧
   ∀base:Heap,(K w.params).In base→base.Ns Al mg→FnOk l.prog w (K w.params) mg base (CX w) k fa fd [x] (sp w))
 (hsp:∀(w:World)(H:Hp)(a:Addr)(ns:List Int),ns.length≤n→Jd H→SqL (K w.params) H a (ns.map V.int)→sp w [.ref a] H (λv _=>v= .bl true) λ_ _ _=>False)
 (hCX:∀(w:World)(H:Hp)(s:Shared)(e:Value)(s':Shared),CX w [] H s (λ_ _ _=>False) e s'→False):
 PySem.W.WalkO q loose XP YP l.row.toRowW d [] (λf vs=>PySem.call f vs):=by
 refine Att.attach_call hn hdf λw s₀ s₁ mg mb fa o pm cd doc a vs ns G Y ho hd hcd hmg hobj hints hlen hg=>?_;have KX:=hY w _ Y;obtain⟨fd,hb,hF⟩:=F w mg fa _ KX G.T.g hmg;exact R3 KX G.T.g G.T.b G.T.builtins G.T.nolimit hg hobj hints (AV hlen hn2) hr hF hb (λH hO hS=>hsp w H a ns hlen hO hS) λH e s'=>hCX w H s₁ e s'
def Hv(s:Stmt):Arguments:=match s with
 | .FunctionDef _ a _ _ _ _ _ _ _ _=>a
 | _=>{posonlyargs:=[],args:=[],vararg:=none,kwonlyargs:=[],kw_defaults:=[],kwarg:=none,defaults:=[]}
def Gv(s:Stmt):List Stmt:=match s with
 | .FunctionDef _ _ b _ _ _ _ _ _ _=>b
 | _=>[]
def Fa(s:Stmt):Scope:=match s with
 | .FunctionDef _ _ _ _ _ _ sc _ _ _=>sc
 | _=>{kind:= .function,names:=[],isGenerator:=false,isCoroutine:=false}
abbrev Fe:GX:=λ_ _ _ _ _ _=>False
abbrev E0:XK:=λ_ _ _=>False
theorem N8:LD Fe X E0:=λ_ _ _ _ _ _ _ h=>h.elim
structure Fun(K:Ad)(x qual:Str)(st:Stmt)(f:Addr)(fd:AJ):Prop where
 ex:∃(oc:Value)(od:Option Addr)(kV doc pm:Value)(an:Option Addr)(cdv ct:Value)(osl:Array (Option Value)),
  fd=BK x qual (Hv st) (Gv st) (Fa st) .none kV doc pm an cdv ct∧K.lookup f=some ⟨oc,od,.func fd,osl⟩∧Dx K cdv qual=true
 kp:BI K (.ref f)=true
section
variable{mg:Str→Option Value}{base:Heap}
theorem Fun.ok{qual:Str}{st:Stmt}{f:Addr}{fd:AJ}{N ps:List Str}{k:Nat}{sp:Sp}(F:Fun K x qual st f fd)(S:FnScope N ps (Fa st))(len:∀vs H Q E,sp vs H Q E→vs.length=ps.length)
 (hbody:∀(cdv:Value)(A:Be)(outer:List Env)(s:Shared)(H:Hp)(vs:List V)(Q:VK)(E:XK),Room k (A.deeper (envOfC qual (Fa st) s.heap.objs.size f cdv))→sp vs H Q E→
  ∃t,PSs (GD Fe P w K mg base N qual (Fa st) f cdv A outer s H E).nox (Gv st) t∧t {nx:=λ_ H'=>Q .non H',rt:=Q} (H_ N vs) H):FnOk P w K mg base Fe (k+1) f fd ps sp:=by
 obtain⟨oc,od,kV,doc,pm,an,cdv,ct,osl,rfl,lk,hcd⟩:=F.ex;refine P0 lk hcd S len λA outer s H vs Q E hr hsp=>?_;obtain⟨t,h,q⟩:=hbody cdv A outer s H vs Q E hr hsp;exact⟨t,h.nox,q⟩
theorem Fun.binds{qual:Str}{st:Stmt}{f:Addr}{fd:AJ}{ps:List Str}(F:Fun K x qual st f fd)
 (h:∀(kV doc pm:Value)(an:Option Addr)(cdv ct:Value)(us:List Value),us.length=ps.length→bindArgs (BK x qual (Hv st) (Gv st) (Fa st) .none kV doc pm an cdv ct) ⟨us,[]⟩=pure (ps.zip us)):Binds K fd ps []:=by
 obtain⟨oc,od,kV,doc,pm,an,cdv,ct,osl,rfl,lk,hcd⟩:=F.ex;exact .all (h kV doc pm an cdv ct)
theorem fun_mk{qual:Str}{st:Stmt}{f:Addr}{oc:Value}{od an:Option Addr}{osl:Array (Option Value)}{kV doc pm cdv ct:Value}(l:K.lookup f=some ⟨oc,od,.func (BK x qual (Hv st) (Gv st) (Fa st) .none kV doc pm an cdv ct),osl⟩)
 (c:Dx K cdv qual=true) (k:BI K (.ref f)=true):Fun K x qual st f (BK x qual (Hv st) (Gv st) (Fa st) .none kV doc pm an cdv ct):=⟨⟨oc,od,kV,doc,pm,an,cdv,ct,osl,rfl,l,c⟩,k⟩
end
theorem G2(h:n≤1000):n<Ak:=Nat.lt_of_le_of_lt h (by decide)
theorem pv(i:Nat){pos:Pos}(hN:X.N[i]?=some x:=by rfl)(hv:L1 X.env.scope x:=by first | exact Or.inl rfl | exact Or.inr (Or.inl rfl) | exact Or.inr (Or.inr rfl))(hd:(x==("__debug__":Str))=false:=by decide)
 (hcd:(x==("__classdict__":Str))=false:=by decide):PE X (.Name x pos) (F6 i):=P9 hN hv hd hcd
theorem EK{A B:Prop}(h:B):if false=true then A else B:=by rw[if_neg Ar];exact h
theorem EL{A B:Prop}(h:A):if true=true then A else B:=by rw[if_pos rfl];exact h
theorem F7{c A B:Prop}[Decidable c](h1:c→A)(h2:¬c→B):if c then A else B:=by
 by_cases h:c
 · rw[if_pos h];exact h1 h
 · rw[if_neg h];exact h2 h
theorem N6{c A B:Prop}[Decidable c](hc:c)(h:B):if(!decide c)=true then A else B:=by rw[decide_eq_true hc];exact EK h
def Same(H H':Hp):Prop:=∀b o,H b=some o→H' b=some o
theorem Same.refl(H:Hp):Same H H:=λ_ _ h=>h
theorem Same.trans{H1 H2:Hp}(a:Same H H1)(b:Same H1 H2):Same H H2:=λc o h=>b c o (a c o h)
theorem Same.free{H':Hp}(e:Same H H'){l:Addr}(h:H' l=Option.none):H l=Option.none:=by
 cases q:H l with
 | none=>rfl
 | some o=> rw[e l o q] at h;cases h
theorem Same.seq{H':Hp}(e:Same H H')(h:SqL K H a xs):SqL K H' a xs:=by
 rcases h with(h | ⟨o,h⟩) | h
 · exact .inl (.inl (e _ _ h))
 · exact .inl (.inr ⟨o,e _ _ h⟩)
 · exact .inr h
section
variable{κ:Type}[DecidableEq κ]
end
def HS(X:Cx)(N':List Str)(scope:Scope)(cl:List (Str×Addr))(C:Addr)(s₀:Shared)(H₀:Hp)(ex:List Addr):Cx:=
 {prog:=X.prog,w:=X.w,K:=X.K,mg:=X.mg,base:=X.base,A:=X.A,N:=N',s₀:=s₀,H₀:=H₀,env:=compEnvC scope cl C X.env,outer:=X.stack,stack:=X.stack,ex:=ex,fn:=λx=>scope.names.lookup x==some .cell,calm:=X.calm,pn:=[],xe:=λ_ _=>False}
abbrev G5:=List (Option Nat)
def GW(js:G5)(σ:St):St:=js.map λo=>o.bind λj=>(σ[j]?).join
theorem PX{env:Env}(has:∀x,(env.kindOf x=some .cell∨env.kindOf x=some .free)→∃c,env.cells.lookup x=some c):
 ∀(names:List (Str×NameKind))(acc:List (Str×Addr)),(∀p∈names,p.2= .free→env.kindOf p.1=some .cell∨env.kindOf p.1=some .free)→(∀x c,acc.lookup x=some c→env.cells.lookup x=some c)→
  ∃cl,(forIn names acc (λ(p:Str×NameKind)(cs:List (Str×Addr))=>(do
   if p.2==NameKind.free then
    let c ←cellOf env p.1
    pure (ForInStep.yield ((p.1,c)::cs))
   else pure (ForInStep.yield cs):Sem (ForInStep (List (Str×Addr))))))=pure cl∧(∀x c,cl.lookup x=some c→env.cells.lookup x=some c)∧
   (∀x,(acc.lookup x).isSome=true→(cl.lookup x).isSome=true)∧∀p∈names,p.2= .free→(cl.lookup p.1).isSome=true:=by
 intro names
 induction names with
 | nil=>intro acc _ ha;exact⟨acc,rfl,ha,λ_ h=>h,λ_ h=>nomatch h⟩
 | cons p r ih=>
  intro acc hn ha;obtain⟨n,k⟩:=p;rw[Dk];by_cases hk:k= .free
  · subst hk;obtain⟨c,hc⟩:=has n (hn (n,.free) A6 rfl);have e:cellOf env n=(pure c:Sem Addr):=by
     unfold cellOf;rw[hc]
    obtain⟨cl,h1,h2,h3,h4⟩:=ih ((n,c)::acc) (λq hq=>hn q (A1 _ hq)) (λx c' hx=>by
     rw[AX] at hx;cases hb:x==n with
     | true=> rw[hb] at hx;cases hx;rw[show x=n from eq_of_beq hb];exact hc
     | false=> rw[hb] at hx;exact ha x c' hx)
    refine⟨cl,?_,h2,λx hx=>h3 x ?_,λq hq hf=>?_⟩
    · simp only[beq_self_eq_true,if_true,e];exact h1
    · rw[AX];cases hb:x==n with
      | true=>rfl
      | false=>exact hx
    · rcases Aq.mp hq with rfl | hq
      · exact h3 _ (by simp[AX])
      · exact h4 q hq hf
  · have hb:(k==NameKind.free)=false:=by simpa using hk
    obtain⟨cl,h1,h2,h3,h4⟩:=ih acc (λq hq=>hn q (A1 _ hq)) ha;refine⟨cl,?_,h2,h3,λq hq hf=>?_⟩
    · simp only[hb,C9,if_false];exact h1
    · rcases Aq.mp hq with rfl | hq
      · exact absurd hf hk
      · exact h4 q hq hf
theorem PY{env:Env}{scope:Scope}(has:∀x,(env.kindOf x=some .cell∨env.kindOf x=some .free)→∃c,env.cells.lookup x=some c)
 (hn:∀p∈scope.names,p.2= .free→env.kindOf p.1=some .cell∨env.kindOf p.1=some .free):
 ∃cl,closureFor scope env=pure cl∧(∀x c,cl.lookup x=some c→env.cells.lookup x=some c)∧∀p∈scope.names,p.2= .free→(cl.lookup p.1).isSome=true:=by
 obtain⟨cl,h1,h2,_,h4⟩:=PX has scope.names [] hn (λ_ _ h=>nomatch h);refine⟨cl,?_,h2,h4⟩;unfold closureFor;show(do let cs ←forIn scope.names [] _;pure cs)=_
 refine Eq.trans ?_ h1;simp only[bind_pure]
section
variable{R:Result→Shared→Prop}
theorem SL{elt target iter:Expr}{ifs:List Expr}{scope:Scope}{pos:Pos}{it acc:Value}{env:Env}(I:Nat→Shared→Prop)
 (turn:∀n s,I n s→wpAny (model prog w) A (pyNext it) (λr s₁=>match r with
  | none=>R (.ok .next) s₁
  | some v=>wpAny (model prog w) A (Cs target it v) (λ_ s₁'=>wpAny (model prog w) A (assign target env v) (λ_ s₂=>
   wpAny (model prog w) A (forIn ifs true λc r=>if r=true then do let ok ←isTrue c env (eval c env);pure (ForInStep.yield ok) else pure (ForInStep.yield r)) (λok s₃=>
    if ok=true then wpAny (model prog w) A (eval elt env) (λx s₄=> wpAny (model prog w) A (call (.builtin "list.append") [acc,x]) (λ_ s₅=>∃m,m<n∧I m s₅) (λ_ _=>False) s₄) (λ_ _=>False) s₃
    else ∃m,m<n∧I m s₃) (λ_ _=>False) s₂) (λ_ _=>False) s₁') (λ_ _=>False) s₁) (λ_ _=>False) s)
 (n:Nat) (h:I n s):
 codeAny (model prog w) A (.compLoop (.ListComp elt [⟨target,iter,ifs,0⟩] scope pos) 0 it acc env) R s:=by
 refine codeAny_loop rfl I (λn s hI=>?_) n h;show wpAny _ A ((compTurn (.ListComp elt [⟨target,iter,ifs,0⟩] scope pos) 0 it acc env).onRaise (λx=>do noteFrame x env;theTreesLotGoes x)) _ _ s
 refine wpAny_noted ?_;rw[compTurn_list];refine Aa (wpAny_standAt (Aa (Br (turn n s hI) (λr s₁ h₁=>?_) λ_ _ h'=>h'.elim)));cases r with
 | none=>exact Af h₁
 | some v=>
  refine Aa (Br h₁ (λ_ s₁' h₁'=>?_) λ_ _ h'=>h'.elim);refine Aa (Br h₁' (λ_ s₂ h₂=>Aa (Br h₂ (λok s₃ h₃=>?_) λ_ _ h'=>h'.elim)) λ_ _ h'=>h'.elim);cases ok with
  | false=>exact Af ⟨rfl,h₃⟩
  | true=> exact Aa (Aa (Br h₃ (λx s₄ h₄=>Aa (Br h₄ (λ_ s₅ h₅=>Af (Af ⟨rfl,h₅⟩)) λ_ _ h'=>h'.elim)) λ_ _ h'=>h'.elim))
end
def Hl(X:Cx)(ifs:List Expr)(t:TT):Prop:=
 ∀(pins:List (Addr×Obj))(s:Shared)(σ:St)(H:Hp)(Q:Bool→Hp→Prop),Inv X pins σ H s→t σ H Q→
  wpAny (model X.prog X.w) X.A (forIn ifs true λc r=>if r=true then do let ok ←isTrue c X.env (eval c X.env);pure (ForInStep.yield ok) else pure (ForInStep.yield r)) (TP X pins σ Q) X.xe s
def JT:TT:=λ_ H Q=>Q true H
theorem Hb:Hl X [] JT:=λ_ _ _ H _ I h=>wpAny_tests_nil ⟨H,I,h⟩
theorem KM{c:Expr}{t:TT}(h:PT X c t):Hl X [c] t:=λpins s σ H Q I hw=>wpAny_tests_one (h pins s σ H Q I hw)
def Ij(J:It)(p:Addr)(js:G5)(g:TG)(tc:TT)(te:TE)(σ:St)(H:Hp)(Q:VK):Prop:=
 ∃W:Nat→Nat→St→List V→Hp→Prop,(∃m,W 0 m (GW js σ) [] (EO H p (.lst [])))∧∀i m σ' ys H,W i m σ' ys H→H p=some (.lst ys)∧
  ((J.stop i H∧Q (.ref p) H)∨(J.go i H∧ys.length<Ak∧∀x H',J.yld i H x H'→g x σ' H' λσ2 H2=>tc σ2 H2 λb H3=>
    if b=true then te σ2 H3 λy H4=>H4 p=some (.lst ys)∧∃m',m'<m∧W (i+1) m' σ2 (ys++[y]) (EO H4 p (.lst (ys++[y])))
    else ∃m',m'<m∧W (i+1) m' σ2 ys H3))
def Pk(wi:TI)(js:G5)(g:TG)(tc:TT)(te:TE):TE:=λσ H Q=>wi σ H λJ H1=>∀p,H1 p=none→Ij J p js g tc te σ H1 Q
structure CapOk(X:Cx)(N':List Str)(js:G5)(scope:Scope):Prop where
 len:js.length=N'.length
 kind:scope.kind= .function
 cells:∀p∈scope.names,p.2= .cell→scope.names.lookup p.1=some .cell
 names:∀p∈scope.names,p.2= .local→scope.names.lookup p.1=some .local
 free:∀p∈scope.names,p.2= .free→X.env.kindOf p.1=some .cell∨X.env.kindOf p.1=some .free
 cap:∀(i j:Nat),js[i]?=some (some j)→∃x,N'[i]?=some x∧X.N[j]?=some x∧scope.names.lookup x=some .free
theorem Mm{names:List (Str×NameKind)}{k:NameKind}(h:names.lookup x=some k):(x,k)∈names:=by
 induction names with
 | nil=>cases h
 | cons p r ih=>
  obtain⟨n,k'⟩:=p;rw[AX] at h;cases hb:x==n with
  | true=> rw[hb] at h;cases h;rw[show x=n from eq_of_beq hb];exact A6
  | false=> rw[hb] at h;exact A1 _ (ih h)
theorem Pg{env:Env}{k:NameKind}(h:(relabel scope env).names.lookup x=some k):∃k0,scope.names.lookup x=some k0∧(k=k0∨(k0= .free∧k= .cell)):=by
 have go:∀(names:List (Str×NameKind)),(names.map λ(p:Str×NameKind)=>if(p.2==NameKind.free && env.scope.kind== .function && env.kindOf p.1==some .cell) then(p.1,NameKind.cell) else(p.1,p.2)).lookup x=some k→
  ∃k0,names.lookup x=some k0∧(k=k0∨(k0= .free∧k= .cell)):=by
  intro names
  induction names with
  | nil=>intro h;cases h
  | cons p r ih=>
   obtain⟨n,k'⟩:=p;intro h;rw[AH] at h;by_cases hc:(k'==NameKind.free && env.scope.kind== .function && env.kindOf n==some .cell)=true
   · rw[if_pos hc] at h;rw[AX] at h ⊢;cases hb:x==n with
     | true=>
      rw[hb] at h;cases h;have:k'= .free:=by cases k'<;>first | rfl | (simp at hc)
      exact⟨k',rfl,.inr ⟨this,rfl⟩⟩
     | false=> rw[hb] at h;exact ih h
   · rw[if_neg hc] at h;rw[AX] at h ⊢;cases hb:x==n with
     | true=> rw[hb] at h;cases h;exact⟨k',rfl,.inl rfl⟩
     | false=> rw[hb] at h;exact ih h
 exact go scope.names h
theorem Tj{env:Env}(h:scope.names.lookup x=some .free):(relabel scope env).names.lookup x=some .cell∨(relabel scope env).names.lookup x=some .free:=by
 have go:∀(names:List (Str×NameKind)),names.lookup x=some .free→(names.map λ(p:Str×NameKind)=>if(p.2==NameKind.free && env.scope.kind== .function && env.kindOf p.1==some .cell) then(p.1,NameKind.cell) else(p.1,p.2)).lookup x=some .cell∨
  (names.map λ(p:Str×NameKind)=>if(p.2==NameKind.free && env.scope.kind== .function && env.kindOf p.1==some .cell) then(p.1,NameKind.cell) else(p.1,p.2)).lookup x=some .free:=by
  intro names
  induction names with
  | nil=>intro h;cases h
  | cons p r ih=>
   obtain⟨n,k'⟩:=p;intro h;rw[AH];rw[AX] at h;by_cases hc:(k'==NameKind.free && env.scope.kind== .function && env.kindOf n==some .cell)=true
   · rw[if_pos hc,AX];cases hb:x==n with
     | true=>exact .inl rfl
     | false=> rw[hb] at h;exact ih h
   · rw[if_neg hc,AX];cases hb:x==n with
     | true=> rw[hb] at h;exact .inr h
     | false=> rw[hb] at h;exact ih h
 exact go scope.names h
theorem K_:∀(names:List (Str×NameKind))(n:Nat)(acc:List (Str×Addr)),AS n names acc=AS n names []++acc
 | [],_,_=>rfl
 | (x,k)::r,n,acc=>by
  unfold AS
  split
  · rw[K_ r _ ((x,n)::acc),K_ r _ [(x,n)],List.append_assoc];rfl
  · exact K_ r n acc
theorem M8{c:Addr}:∀(names:List (Str×NameKind))(n:Nat)(acc:List (Str×Addr)),(x,c)∈AS n names acc→(x,NameKind.cell)∈names∨(x,c)∈acc
 | [],_,_,h=> .inr h
 | (y,k)::r,n,acc,h=>by
  unfold AS at h
  split at h
  · rename_i hk;rcases M8 r _ _ h with z | z
    · exact .inl (A1 _ z)
    · rcases Aq.mp z with z | z
      · cases z;rw[show k= .cell from eq_of_beq hk];exact .inl A6
      · exact .inr z
  · rcases M8 r _ _ h with z | z
    · exact .inl (A1 _ z)
    · exact .inr z
structure OwnCells(scope:Scope)(cl0 cl:List (Str×Addr))(lo:Nat)(h₁:Heap):Prop where
 own:∀x c,cl.lookup x=some c→(scope.names.lookup x=some .cell→lo<c∧h₁.IsCell c none)∧(scope.names.lookup x≠some .cell→cl0.lookup x=some c)
 has:∀x,scope.names.lookup x=some .cell∨(cl0.lookup x).isSome=true→(cl.lookup x).isSome=true
 inj:∀x y c,scope.names.lookup x=some .cell→scope.names.lookup y=some .cell→cl.lookup x=some c→cl.lookup y=some c→x=y
theorem TH{M:Model}{A:Be}{E:Value→Shared→Prop}{s:Shared}{globals:Addr}{cl0:List (Str×Addr)}{qual:Str}{env:Env}{Q:Env→Shared→Prop}(ok:∀p∈scope.names,p.2= .cell→scope.names.lookup p.1=some .cell)
 (hQ:∀(cl:List (Str×Addr))(h₁:Heap),(∃m,h₁.Ns s.heap.objs.size m)→(∀b u,s.heap.get? b=some u→h₁.get? b=some u)→OwnCells scope cl0 cl s.heap.objs.size h₁→
  Q (newEnv scope s.heap.objs.size globals cl qual none .none (some env) builtinsNs) {s with heap:=h₁,toks:=s.toks+([]:List (Str×Value)).length}):
 wpAny M A (newFunctionEnv scope globals cl0 [] qual none .none (some env)) Q E s:=by
 simp only[newFunctionEnv,Option.isSome_some,if_true];refine Aa (wpAny_alloc ?_);refine Aa (wpAny_layCells _ (λname kind cells=>by cases hkc:kind==NameKind.cell<;>simp[hkc]) _ _ _ _ ?_);have ck:=cellsFrom_ok scope.names (s.heap.push {cls:= .type "dict",data:= .dict #[]}) (s.heap.objs.size+1) [] ⟨λ_ _ hm=>(nomatch hm),List.Pairwise.nil⟩ (by rw[AW];exact Ae _);rw[AW] at ck;rw[show({s with heap:=s.heap.push {cls:= .type "dict",data:= .dict #[]}}:Shared).heap.objs.size=s.heap.objs.size+1 from AW ..]
 rw[D0];refine Aa (Af (Af ?_));rw[K_];refine hQ _ _ ⟨_,(Heap.Ns.new s.heap (.type "dict")).keeps (pushCells_keeps _ _)⟩ (λb o e=>pushCells_keeps _ _ b o (Ac _ e)) ?_;have lk:∀x,(AS (s.heap.objs.size+1) scope.names []++cl0).lookup x=((AS (s.heap.objs.size+1) scope.names []).lookup x).or (cl0.lookup x):=λx=>List.lookup_append;have cn:∀x c,(AS (s.heap.objs.size+1) scope.names []).lookup x=some c→scope.names.lookup x=some .cell:=λx c e=>by
  rcases M8 _ _ _ (mem_of_lookup e) with z | z
  · exact ok _ z rfl
  · cases z
 refine⟨λx c e=>⟨λhx=>?_,λhx=>?_⟩,λx hx=>?_,λx y c hx hy e1 e2=>?_⟩
 · rw[lk] at e;have q:=Bs scope.names (s.heap.objs.size+1) [] (.inl hx);cases z:(AS (s.heap.objs.size+1) scope.names []).lookup x with
   | none=>rw[z] at q;cases q
   | some c'=> rw[z] at e;cases e;have:=ck.empty _ _ (mem_of_lookup z);exact⟨this.2,this.1⟩
 · rw[lk] at e;cases z:(AS (s.heap.objs.size+1) scope.names []).lookup x with
   | none=>rw[z] at e;exact e
   | some c'=>exact absurd (cn x c' z) hx
 · rw[lk];rcases hx with hx | hx
   · have q:=Bs scope.names (s.heap.objs.size+1) [] (.inl hx);cases z:(AS (s.heap.objs.size+1) scope.names []).lookup x with
     | none=>rw[z] at q;cases q
     | some c'=>rfl
   · cases z:(AS (s.heap.objs.size+1) scope.names []).lookup x with
     | none=>exact hx
     | some c'=>rfl
 · rw[lk] at e1 e2;have go:∀x,scope.names.lookup x=some .cell→((AS (s.heap.objs.size+1) scope.names []).lookup x).or (cl0.lookup x)=some c→(x,c)∈AS (s.heap.objs.size+1) scope.names []:=λx hx e=>by
    have q:=Bs scope.names (s.heap.objs.size+1) [] (.inl hx);cases z:(AS (s.heap.objs.size+1) scope.names []).lookup x with
    | none=>rw[z] at q;cases q
    | some c'=>rw[z] at e;cases e;exact mem_of_lookup z
   exact name_of_addr ck.apart (go x hx e1) (go y hy e2)
theorem QY{N':List Str}{js:G5}{cl0 cl:List (Str×Addr)}{fp:List Addr}{h₁:Heap}{t':Nat}(ok:CapOk X N' js scope)(I:Inv X pins σ H s)
 (h2':∀x c,cl0.lookup x=some c→X.env.cells.lookup x=some c) (h3':∀p∈scope.names,p.2= .free→(cl0.lookup p.1).isSome=true)
 (hf:∀b∈fp,FC X pins H b) (hlt:∀b∈fp,b<s.heap.objs.size)
 (k:∀b u,s.heap.get? b=some u→h₁.get? b=some u) (hn:∃m,h₁.Ns s.heap.objs.size m) (oc:OwnCells scope cl0 cl s.heap.objs.size h₁):
 Inv (HS X N' scope cl s.heap.objs.size s H fp) [] (GW js σ) H {s with heap:=h₁,toks:=t'}:=by
 have fresh:H s.heap.objs.size=none:=I.hok.fresh (Ae _);have h2:∀x c,cl.lookup x=some c→(scope.names.lookup x=some .cell∧s.heap.objs.size<c∧h₁.IsCell c none)∨X.env.cells.lookup x=some c:=λx c e=>by
  by_cases hx:scope.names.lookup x=some .cell
  · exact .inl ⟨hx,(oc.own x c e).1 hx⟩
  · exact .inr (h2' x c ((oc.own x c e).2 hx))
 have h3:∀p∈scope.names,p.2= .free→(cl.lookup p.1).isSome=true:=λp hp e=>oc.has _ (.inr (h3' p hp e));have kind_of:∀x,((relabel scope X.env).names.lookup x=some .cell∨(relabel scope X.env).names.lookup x=some .free)→scope.names.lookup x=some .cell∨scope.names.lookup x=some .free:=λx hx=>by
  rcases hx with hx | hx
  · obtain⟨k0,e,z⟩:=Pg hx;rcases z with z | ⟨z,_⟩
    · subst z;exact .inl e
    · subst z;exact .inr e
  · obtain⟨k0,e,z⟩:=Pg hx;rcases z with z | ⟨z,z'⟩
    · subst z;exact .inr e
    · cases z'
 have clt:∀x c,X.env.cells.lookup x=some c→c<s.heap.objs.size:=λx c e=>let⟨v,hv⟩:=I.cell x c e;hv.lt;have okc:(HS X N' scope cl s.heap.objs.size s H fp).Ok:=by
  refine⟨I.ok.mod,ok.kind,I.ok.glob,I.ok.blt,Ae _,λx y c e1 e2=>?_,λx hx=>?_,λx c hx e=>?_,I.ok.hd,I.ok.frames,.inl rfl,λb hb=>⟨Au (hlt b hb),λx c e=>?_⟩,I.bs,AV I.ok.bsz I.sz,λb o e hb=>?_,λb hb hb'=>?_,I.stack,I.stkFree⟩
  · rcases h2 x c e1 with⟨k1,l1,_⟩ | l1
    · rcases h2 y c e2 with⟨k2,l2,_⟩ | l2
      · exact oc.inj x y c k1 k2 e1 e2
      · exact absurd l1 (Nat.lt_asymm (clt y c l2))
    · rcases h2 y c e2 with⟨k2,l2,_⟩ | l2
      · exact absurd l2 (Nat.lt_asymm (clt x c l1))
      · exact I.ok.inj x y c l1 l2
  · have z:(cl.lookup x).isSome=true:=by
     rcases kind_of x hx with e | e
     · exact oc.has x (.inl e)
     · exact h3 _ (Mm e) rfl
    cases q:cl.lookup x with
    | none=>rw[q] at z;cases z
    | some c=>exact⟨c,q⟩
  · exact AQ ((oc.own x c e).1 (eq_of_beq hx)).1
  · rcases h2 x c e with⟨_,l,_⟩ | l
    · exact λz=>Nat.lt_asymm (hlt b hb) (z ▸ l)
    · exact(hf b hb).2.2.2.2.1 x c l
  · rcases(hf b hb).2.2.2.1 with z | z
    · exact I.ok.noex b o e z
    · exact absurd (A0 (Aj e) (AV I.ok.bsz z)) (Bw _)
  · rcases Aq.mp (I.stkSub b hb') with z | z
    · exact(hf b hb).2.1 z
    · exact(hf b hb).2.2.1 z
 obtain⟨m,hn⟩:=hn;refine⟨okc,rfl,I.bare,Un.kept k,⟨m,hn,λi x v e1 e2 e3=>?_⟩,λx c e=>?_,fresh,λx c e=>?_,(λp hp=>nomatch hp),I.hok.kept k,by show(GW js σ).length=N'.length;unfold GW;rw[Ab];exact ok.len⟩
 · have e2:(GW js σ)[i]?=some (some v):=e2;unfold GW at e2;rw[A5] at e2;cases q:js[i]? with
   | none=>rw[q] at e2;cases e2
   | some o=>
    rw[q] at e2;cases o with
    | none=>cases e2
    | some j=>
     obtain⟨x',n1,n2,n3⟩:=ok.cap i j q;have e1:N'[i]?=some x:=e1;rw[n1] at e1;cases e1;have e2:(σ[j]?).join=some v:=A2 e2;have e2':σ[j]?=some (some v):=by
      cases q2:σ[j]? with
      | none=>rw[q2] at e2;cases e2
      | some o2=>rw[q2] at e2;exact congrArg some e2
     obtain⟨mo,hno,hlo⟩:=I.loc;have kx:=ok.free _ (Mm n3) rfl;have vis:L1 X.env.scope x:=by
      rcases kx with z | z
      · exact .inr (.inl z)
      · exact .inr (.inr z)
     obtain⟨u,r,l⟩:=hlo j x v n2 e2' vis;refine⟨u,r,.inr ⟨Tj n3,?_⟩⟩;rcases l with⟨z,_⟩ | ⟨_,c,hc,hcell⟩
     · rcases kx with y | y<;>(rw[z] at y;cases y)
     · have z:=h3 _ (Mm n3) rfl;cases q3:cl.lookup x with
       | none=>rw[q3] at z;cases z
       | some c'=> have:=h2' x c' ((oc.own x c' q3).2 (by rw[n3];decide));rw[hc] at this;cases this;exact⟨c,q3,hcell.keeps k⟩
 · rcases h2 x c e with⟨_,_,l⟩ | l
   · exact⟨_,l⟩
   · obtain⟨v,hv⟩:=I.cell x c l;exact⟨v,hv.keeps k⟩
 · rcases h2 x c e with⟨_,l,_⟩ | l
   · exact I.hok.fresh (AQ l)
   · exact I.freeC x c l
section
variable{tg iter elt:Expr}{ifs:List Expr}{wi:TI}{js:G5}{g:TG}{tc:TT}{te:TE}{N':List Str}
theorem R4{pins:List (Addr×Obj)}{σ:St}{H:Hp}{s:Shared}{E:Value→Shared→Prop}{Q:VK}{J:It}{it:Addr}{fp:List Addr}{tn:Nat→Heap→Prop}{cl:List (Str×Addr)}
 (hc:X.calm=true) (ok:CapOk X N' js scope)
 (h2:∀x c,cl.lookup x=some c→X.env.cells.lookup x=some c) (h3:∀p∈scope.names,p.2= .free→(cl.lookup p.1).isSome=true)
 (hg:∀cl C s₀ H₀ ex,PG (HS X N' scope cl C s₀ H₀ ex) tg g) (ht:∀cl C s₀ H₀ ex,Hl (HS X N' scope cl C s₀ H₀ ex) ifs tc) (he:∀cl C s₀ H₀ ex,PE (HS X N' scope cl C s₀ H₀ ex) elt te)
 (I:Inv X pins σ H s) (T:Turn X.prog X.w X.K tg J fp it tn) (st:tn 0 s.heap) (hf:∀b∈fp,FC X pins H b)
 (hw:∀p,H p=none→Ij J p js g tc te σ H Q):
 wpAny (model X.prog X.w) X.A (newList []) (λacc s₃=>wpAny (model X.prog X.w) X.A (newFunctionEnv scope X.env.globals cl [] X.env.qual none .none (some X.env)) (λcenv s₄=>
  codeAny (model X.prog X.w) X.A (.compStart (.ListComp elt [⟨tg,iter,ifs,0⟩] scope pos) 0 (.ref it) acc {cenv with scope:=relabel scope X.env})
   (λr s'=>r= .ok .next∧(∃m,s'.heap.Ns cenv.locals m)∧∃v H',RelV v acc∧Inv X pins σ H' s'∧FC X pins H' cenv.locals∧Q v H') s₄) E s₃) E s:=by
 have objs:=T.obj _ _ st;refine Bp ?_ (by show 0≤Ak;decide);obtain⟨W,⟨m0,w0⟩,turn⟩:=hw s.heap.objs.size (I.hok.fresh (Ae _));generalize hp:s.heap.objs.size=p at*;have kp:∀b u,s.heap.get? b=some u→(s.heap.push {cls:= .type "list",dict:=none,data:= .seq ([]:List Value).toArray}).get? b=some u:=λb u e=>Ac _ e;have I3:Inv X pins σ (EO H p (.lst [])) {s with heap:=s.heap.push {cls:= .type "list",dict:=none,data:= .seq ([]:List Value).toArray}}:=by refine I.laid (t':=s.toks) kp (by rw[hp];exact Ae _) ⟨BA _,[],0,.nil,?_⟩;have:=An s.heap (o:={cls:= .type "list",dict:=none,data:= .seq ([]:List Value).toArray}) rfl;rw[hp] at this;exact this
 have fne:∀b∈fp,b≠p:=λb hb=>by obtain⟨o,e,_⟩:=objs b hb;have:=Aj e;rw[←hp];exact Au this
 have hf3:∀b∈fp,FC X pins (EO H p (.lst [])) b:=λb hb=>⟨by rw[Fz (fne b hb)];exact(hf b hb).1,(hf b hb).2⟩;have st3:tn 0 (s.heap.push {cls:= .type "list",dict:=none,data:= .seq ([]:List Value).toArray}):=T.keep _ _ _ st λb _ o e=>kp b o e;have lt3:∀b∈fp,b<(s.heap.push {cls:= .type "list",dict:=none,data:= .seq ([]:List Value).toArray}).objs.size:=λb hb=>by obtain⟨o,e,_⟩:=objs b hb;exact Aj (kp b o e)
 generalize hs3:({s with heap:=s.heap.push {cls:= .type "list",dict:=none,data:= .seq ([]:List Value).toArray}}:Shared)=s3 at*
 have eh:s.heap.push {cls:= .type "list",dict:=none,data:= .seq ([]:List Value).toArray}=s3.heap:=by rw[←hs3]
 rw[eh] at st3 lt3;refine TH ok.cells λcl h₁ hns₁ k4 oc=>?_;have I4:=QY (cl:=cl) (h₁:=h₁) (t':=s3.toks+([]:List (Str×Value)).length) ok I3 h2 h3 hf3 lt3 k4 hns₁ oc;have st4:tn 0 h₁:=T.keep _ _ _ st3 λb _ o e=>k4 b o e;generalize hX:HS X N' scope cl s3.heap.objs.size s3 (EO H p (.lst [])) fp=X' at I4;have hg':PG X' tg g:=by rw[←hX];exact hg _ _ _ _ _
 have ht':Hl X' ifs tc:=by rw[←hX];exact ht _ _ _ _ _
 have he':PE X' elt te:=by rw[←hX];exact he _ _ _ _ _
 have eP:X'.prog=X.prog:=by rw[←hX];rfl
 have ew:X'.w=X.w:=by rw[←hX];rfl
 have eK:X'.K=X.K:=by rw[←hX];rfl
 have ec:X'.calm=true:=by rw[←hX];exact hc
 have eA:X'.A=X.A:=by rw[←hX];rfl
 have ex:X'.xe=λ_ _=>False:=by rw[←hX];rfl
 have eE:X'.env=compEnvC scope cl s3.heap.objs.size X.env:=by rw[←hX];rfl
 have eEx:X'.ex=fp:=by rw[←hX];rfl
 have eN:X'.pn=[]:=by rw[←hX];rfl
 have stat:∀{H':Hp},(∀b∈fp,H' b=none)→∀b∈fp,FC X' [] H' b:=λ{H'}hn b hb=>by have okc:=I4.ok;refine⟨hn b hb,(okc.exf b (by rw[eEx];exact hb)).1,okc.exfs b (by rw[eEx];exact hb),.inl (by rw[eEx];exact hb),(okc.exf b (by rw[eEx];exact hb)).2,λq hq=>?_⟩;rw[eN] at hq;cases hq
 have loop:∀s₄:Shared,s₄={s3 with heap:=h₁,toks:=s3.toks+([]:List (Str×Value)).length}→
  codeAny (model X.prog X.w) X.A (.compLoop (.ListComp elt [⟨tg,iter,ifs,0⟩] scope pos) 0 (.ref it) (.ref p) (compEnvC scope cl s3.heap.objs.size X.env))
   (λr s'=>r= .ok .next∧(∃m,s'.heap.Ns s3.heap.objs.size m)∧∃v H',RelV v (.ref p)∧Inv X pins σ H' s'∧FC X pins H' s3.heap.objs.size∧Q v H') s₄:=by
  rintro s₄ rfl;refine SL (λn s'=>∃i σ' ys H',Inv X' [] σ' H' s'∧tn i s'.heap∧(∀b∈fp,H' b=none)∧W i n σ' ys H') ?_ m0 ⟨0,_,[],_,I4,st4,λb hb=>(hf3 b hb).1,w0⟩;rintro n s5 ⟨i,σ5,ys,H5,I5,st5,fr5,w5⟩;obtain⟨hp5,tu⟩:=turn i n σ5 ys H5 w5;rcases tu with⟨stop,qn⟩ | ⟨go,hz,step⟩
  · have D:=T.done X' eP ew eK ec i [] s5 σ5 H5 (λ_ _=>False) I5 (stat fr5) st5 stop;rw[eA] at D;refine EY D λr s6 ⟨hr,I6⟩=>?_;subst hr;refine⟨rfl,?_,.ref p,H5,rfl,?_,?_,qn⟩
    · obtain⟨m,hm,_⟩:=I6.loc;rw[eE] at hm;exact⟨m,hm⟩
    · have b6:=I6.base;have ho:=I6.os;have hk:=I6.hok;have hb:=I6.bare;subst hX;exact I3.call' (ch:=fp) ho b6 hk hb λb hb'=>⟨(hf b hb').2.2.2.1,(hf b hb').2.1,(hf b hb').2.2.2.2.1,(hf b hb').2.2.2.2.2⟩
    · have fr:=I6.free;rw[eE] at fr;exact I3.fpOk (Ae _) fr
  · have D:=T.item X' eP ew eK ec i [] s5 σ5 H5 (λ_ _=>False) I5 (stat fr5) st5 go;rw[eA] at D;refine EY D λr s6 ⟨u,hr,h6⟩=>?_;subst hr;refine EY h6 λ_ s7 ⟨x,H7,I7,r7,y7,st7,fr7⟩=>?_;have I7':=I7.pinned (stat fr7) (T.obj _ _ st7);have G:=hg' _ s7 σ5 H7 x u _ I7' r7 (step x H7 y7);rw[eP,ew,eA,ex,eE] at G;refine EY G λ_ s8 ⟨σ8,H8,I8,q8⟩=>?_;have Tt:=ht' _ s8 σ8 H8 _ I8 q8;rw[eP,ew,eA,ex,eE] at Tt;refine EY Tt λb s9 ⟨H9,I9,q9⟩=>?_;have again:∀{s':Shared}{ys':List V}{H':Hp},Inv X' ([]++JH fp s7.heap) σ8 H' s'→(∃m',m'<n∧W (i+1) m' σ8 ys' H')→
     ∃m,m<n∧∃i σ' ys H',Inv X' [] σ' H' s'∧tn i s'.heap∧(∀b∈fp,H' b=none)∧W i m σ' ys H':=λ{s' ys' H'}I' ⟨m',hm,w'⟩=>by
     refine⟨m',hm,i+1,σ8,ys',H',I'.unpinned,T.keep _ _ _ st7 λb hb o e=>(I'.pin (b,o) (AD _ (AD _ (KQ hb e)))).1,λb hb=>?_,w'⟩;obtain⟨o,e,d⟩:=T.obj _ _ st7 b hb;exact(I'.pin (b,o) (AD _ (AD _ (KQ hb e)))).2.1
    cases b with
    | false=>exact again I9 q9
    | true=> have Ee:=he' _ s9 σ8 H9 _ I9 q9;rw[eP,ew,eA,ex,eE] at Ee;show wpAny _ _ _ _ _ _;refine EY Ee λxv s10 ⟨y,H10,I10,r10,hp10,q10⟩=>?_;have Ap:=KU (X:=X') _ s10 σ8 H10 (.ref p) [y] (.ref p) [xv] (λ_ H'=>H'=EO H10 p (.lst (ys++[y]))) I10 rfl (.cons r10 .nil) ⟨p,ys,y,rfl,rfl,hp10,hz,rfl⟩;rw[eP,ew,eA,ex] at Ap;refine EY Ap λ_ s11 ⟨_,H11,I11,_,e11⟩=>?_;subst e11;exact again I11 q10
 exact codeAny_compStart_list (loop _ rfl) (T.self _ 0 _ _ _ st4 (loop _ rfl))
theorem G8(hc:X.calm=true)(ok:CapOk X N' js scope)(hi:PI X tg iter wi)
 (hg:∀cl C s₀ H₀ ex,PG (HS X N' scope cl C s₀ H₀ ex) tg g) (ht:∀cl C s₀ H₀ ex,Hl (HS X N' scope cl C s₀ H₀ ex) ifs tc) (he:∀cl C s₀ H₀ ex,PE (HS X N' scope cl C s₀ H₀ ex) elt te)
 (hs:∀x,foldedSetIterable iter X.env x=pure x:=by intro _;rfl):PE X (.ListComp elt [⟨tg,iter,ifs,0⟩] scope pos) (Pk wi js g tc te):=by
 intro pins s σ H Q I h;obtain⟨cl,c1,c2,c3⟩:=PY (scope:=scope) I.ok.has ok.free;rw[eval_ListComp];refine wpAny_comprehension_free (use:=none) rfl hs c1 ok.kind ok.names (EY (hi pins s σ H _ I h) λv s1 h1=>EY h1 λitv s2 h2=>?_);obtain⟨it,fp,tn,J,H2,e,I2,T,st2,f2,hw⟩:=h2;subst e;refine Br (R4 (iter:=iter) (pos:=pos) hc ok c2 c3 hg ht he I2 T st2 f2 hw) (λacc s3 h3=>Br h3 (λcenv s4 h4=>?_) λ_ _ z=>z) λ_ _ z=>z;refine BX h4 λr s5 h5=>?_;obtain⟨rfl,⟨m,hm⟩,v,H5,rv,I5,f5,q5⟩:=h5;refine⟨m,hm,λh' sb=>?_⟩;obtain⟨f0,f1,_,f3,f4,f6⟩:=f5;exact⟨v,H5,I5.turned (t':=s5.toks) (λb o hb e=>(sb.2 b hb).trans e) f0 f1 f3 f4 f6,rv,q5⟩
end
end L2
set_option exponentiation.threshold 2000
namespace L2
def N9(i j:Int):Prop:=0≤j∧j≤1000∧i.natAbs<2^1000
def Pu(i j:Int):Prop:=0<j∧j<2^1000
theorem Hc:FB X (binaryOp .Pow) (rI N9 λi j=> .int (i^j.toNat)):=Lv λi j _ _ _ _ _ hc q=>by
 obtain⟨h0,h1,h2⟩:=hc;refine pow_int h0 ?_ q;have hb:C6 i≤1000:=intBits_le h2;have e1:((C6 i:Nat):Int)*j≤1000*1000:=by have a1:((C6 i:Nat):Int)*j≤1000*j:=Int.mul_le_mul_of_nonneg_right (by omega) h0;have a2:1000*j≤1000*1000:=Int.mul_le_mul_of_nonneg_left h1 (by decide);exact Int.le_trans a1 a2
 exact Int.le_trans e1 (by decide)
theorem LZ:FB X (binaryOp .FloorDiv) (rI Pu λi j=> .int (i / j)):=Lv λi j _ _ _ _ _ hc q=>by
 obtain⟨h0,h1⟩:=hc;refine floordiv_int (by omega) ?_ (.inl (PyProof.noPylong_of_log2 ?_))
 · rw[Int.fdiv_eq_ediv_of_nonneg _ (by omega)];exact q
 · have h2:j.natAbs<2^1000:=by
    have e:((j.natAbs:Nat):Int)=j:=by omega
    have h3:((j.natAbs:Nat):Int)<((2^1000:Nat):Int):=by rw[e,Int.natCast_pow];exact h1
    exact Int.ofNat_lt.mp h3
   have h4:j.natAbs≠0:=by omega
   have h5:=(Nat.log2_lt h4).mpr h2;omega
inductive PD where
 | non | bl (b:Bool) | int (i:Int) | str (x:Str) | lst (ds:List PD) | tup (ds:List PD)
mutual
def ER(K:Ad)(H:Hp):PD→V→Prop
 | .non,v=>v= .non
 | .bl b,v=>v= .bl b
 | .int i,v=>v= .int i
 | .str x,v=>v= .str x
 | .lst ds,v=>∃a xs,v= .ref a∧SqL K H a xs∧Reps K H ds xs
 | .tup ds,v=>∃a xs,v= .ref a∧SqT K H a xs∧Reps K H ds xs
def Reps(K:Ad)(H:Hp):List PD→List V→Prop
 | [],xs=>xs=[]
 | d::ds,xs=>∃x r,xs=x::r∧ER K H d x∧Reps K H ds r
end
mutual
def Fx:PD→PD→Bool
 | .non,.non=>true
 | .bl a,.bl b=>a==b
 | .bl a,.int b=>(if a then 1 else 0)==b
 | .int a,.bl b=>a==(if b then 1 else 0)
 | .int a,.int b=>a==b
 | .str a,.str b=>a==b
 | .lst xs,.lst ys=>GE xs ys
 | .tup xs,.tup ys=>GE xs ys
 | _,_=>false
def GE:List PD→List PD→Bool
 | [],[]=>true
 | x::xs,y::ys=>Fx x y && GE xs ys
 | _,_=>false
end
mutual
def Hs:PD→Nat
 | .lst ds=>Hw ds+1
 | .tup ds=>Hw ds+1
 | _=>0
def Hw:List PD→Nat
 | []=>0
 | d::ds=>max (Hs d) (Hw ds)
end
mutual
theorem Me:∀d:PD,Fx d d=true
 | .non=>rfl
 | .bl b=>by simp[Fx]
 | .int i=>by simp[Fx]
 | .str x=>by simp[Fx]
 | .lst ds=>by rw[Fx];exact KR ds
 | .tup ds=>by rw[Fx];exact KR ds
theorem KR:∀ds:List PD,GE ds ds=true
 | []=>by rw[GE]
 | d::ds=>by rw[GE,Me d,KR ds];rfl
end
theorem Reps.length:∀{ds:List PD}{xs:List V},Reps K H ds xs→xs.length=ds.length
 | [],xs,h=>by rw[Reps] at h;rw[h];rfl
 | d::ds,xs,h=>by rw[Reps] at h;obtain⟨x,r,rfl,_,h⟩:=h;rw[Aw,Aw,Reps.length h]
theorem Jr:∀{xs ys:List PD},xs.length≠ys.length→GE xs ys=false
 | [],[],h=>absurd rfl h
 | [],_::_,_=>by rw[GE];all_goals simp
 | _::_,[],_=>by rw[GE];all_goals simp
 | x::xs,y::ys,h=>by rw[GE,Jr (xs:=xs) (ys:=ys) (by simpa using h)];simp
def Ju(xs ys:List PD)(j:Nat):Bool:=match xs[j]?,ys[j]? with
 | some a,some b=>Fx a b
 | _,_=>false
theorem JQ:∀(xs ys:List PD),xs.length=ys.length→(Ba xs.length).all (Ju xs ys)=GE xs ys
 | [],[],_=>by rw[GE];rfl
 | x::xs,y::ys,h=>by rw[GE,Aw,BH,A9,List.all_map];rw[←JQ xs ys (by simpa using h)];rfl
theorem SqT.notL{K:Ad}{ys:List V}(I:Inv X pins σ H s)(h:SqT X.K H a xs)(h':SqL X.K H a ys):False:=by obtain⟨its,_,p,_⟩:=I.tuple h;obtain⟨its',_,p',_⟩:=I.list h';exact SeqAt.ne_of_list_tuple p'.isList (show s.heap.IsTuple a its.toArray from p) rfl
mutual
theorem LO(I:Inv X pins σ H s):∀(d e:PD)(v:V),ER X.K H d v→ER X.K H e v→d=e
 | .non,e,v,h,h'=>by rw[ER] at h;subst h;cases e<;>rw[ER] at h'<;>first | rfl | (obtain⟨_,_,z,_⟩:=h';cases z;done) | (cases h';done)
 | .bl b,e,v,h,h'=>by rw[ER] at h;subst h;cases e<;>rw[ER] at h'<;>first | (obtain⟨_,_,z,_⟩:=h';cases z;done) | (cases h';done) | (cases h';rfl)
 | .int i,e,v,h,h'=>by rw[ER] at h;subst h;cases e<;>rw[ER] at h'<;>first | (obtain⟨_,_,z,_⟩:=h';cases z;done) | (cases h';done) | (cases h';rfl)
 | .str x,e,v,h,h'=>by rw[ER] at h;subst h;cases e<;>rw[ER] at h'<;>first | (obtain⟨_,_,z,_⟩:=h';cases z;done) | (cases h';done) | (cases h';rfl)
 | .lst ds,e,v,h,h'=>by
  rw[ER] at h;obtain⟨a,xs,rfl,q,r⟩:=h;cases e with
  | lst es=> rw[ER] at h';obtain⟨a',ys,z,q',r'⟩:=h';cases z;have:=I.list_inj q q';subst this;rw[L_ I ds es xs r r']
  | tup es=> rw[ER] at h';obtain⟨a',ys,z,q',r'⟩:=h';cases z;exact(SqT.notL (K:=X.K) I q' q).elim
  | _=>rw[ER] at h';cases h'
 | .tup ds,e,v,h,h'=>by
  rw[ER] at h;obtain⟨a,xs,rfl,q,r⟩:=h;cases e with
  | tup es=> rw[ER] at h';obtain⟨a',ys,z,q',r'⟩:=h';cases z;have:=I.tuple_inj q q';subst this;rw[L_ I ds es xs r r']
  | lst es=> rw[ER] at h';obtain⟨a',ys,z,q',r'⟩:=h';cases z;exact(SqT.notL (K:=X.K) I q q').elim
  | _=>rw[ER] at h';cases h'
theorem L_(I:Inv X pins σ H s):∀(ds es:List PD)(vs:List V),Reps X.K H ds vs→Reps X.K H es vs→ds=es
 | [],es,vs,h,h'=>by
  rw[Reps] at h;subst h;cases es with
  | nil=>rfl
  | cons e es=>rw[Reps] at h';obtain⟨_,_,z,_⟩:=h';cases z
 | d::ds,es,vs,h,h'=>by
  rw[Reps] at h;obtain⟨x,r,rfl,h1,h2⟩:=h;cases es with
  | nil=>rw[Reps] at h';cases h'
  | cons e es=> rw[Reps] at h';obtain⟨x',r',z,h1',h2'⟩:=h';cases z;rw[LO I d e x h1 h1',L_ I ds es r h2 h2']
end
mutual
theorem Q9(I:Inv X pins σ H s):∀(A:Be)(d e:PD)(v w:V)(u y:Value),ER X.K H d v→ER X.K H e w→RelV v u→RelV w y→A.units+Hs d<cLine→SeqAt.EqAt A s u y (Fx d e)
 | A,.non,e,v,w,u,y,h,h',r,r',z=>by
  rw[ER] at h;subst h;cases r;cases e with
  | non=>rw[ER] at h';subst h';cases r';rw[Fx];exact Dl _
  | bl b=>rw[ER] at h';subst h';cases r';exact SeqAt.EqAt.none_bool b
  | int b=>rw[ER] at h';subst h';obtain⟨t,rfl⟩:=r';exact SeqAt.EqAt.none_int b t
  | str b=>rw[ER] at h';subst h';obtain⟨t,rfl⟩:=r';exact SeqAt.EqAt.none_str b t
  | lst es=>rw[ER] at h';obtain⟨a,xs,rfl,q,_⟩:=h';cases r';obtain⟨its,_,p,_⟩:=I.list q;exact SeqAt.EqAt.none_list p.isList (by omega)
  | tup es=>rw[ER] at h';obtain⟨a,xs,rfl,q,_⟩:=h';cases r';obtain⟨its,_,p,_⟩:=I.tuple q;exact SeqAt.EqAt.none_tuple p (by omega)
 | A,.bl c,e,v,w,u,y,h,h',r,r',z=>by
  rw[ER] at h;subst h;cases r;cases e with
  | non=>rw[ER] at h';subst h';cases r';exact SeqAt.EqAt.bool_none c
  | bl b=>rw[ER] at h';subst h';cases r';exact SeqAt.EqAt.bool_bool c b
  | int b=>rw[ER] at h';subst h';obtain⟨t,rfl⟩:=r';exact SeqAt.EqAt.bool_int c b t
  | str b=>rw[ER] at h';subst h';obtain⟨t,rfl⟩:=r';exact SeqAt.EqAt.bool_str c b t
  | lst es=>rw[ER] at h';obtain⟨a,xs,rfl,q,_⟩:=h';cases r';obtain⟨its,_,p,_⟩:=I.list q;exact SeqAt.EqAt.bool_list c p.isList (by omega)
  | tup es=>rw[ER] at h';obtain⟨a,xs,rfl,q,_⟩:=h';cases r';obtain⟨its,_,p,_⟩:=I.tuple q;exact SeqAt.EqAt.bool_tuple c p (by omega)
 | A,.int c,e,v,w,u,y,h,h',r,r',z=>by
  rw[ER] at h;subst h;obtain⟨tc,rfl⟩:=r;cases e with
  | non=>rw[ER] at h';subst h';cases r';exact SeqAt.EqAt.int_none c tc
  | bl b=>rw[ER] at h';subst h';cases r';exact SeqAt.EqAt.int_bool c tc b
  | int b=>rw[ER] at h';subst h';obtain⟨t,rfl⟩:=r';exact SeqAt.EqAt.int_int c tc b t
  | str b=>rw[ER] at h';subst h';obtain⟨t,rfl⟩:=r';exact SeqAt.EqAt.int_str c tc b t
  | lst es=>rw[ER] at h';obtain⟨a,xs,rfl,q,_⟩:=h';cases r';obtain⟨its,_,p,_⟩:=I.list q;exact SeqAt.EqAt.int_list c tc p.isList (by omega)
  | tup es=>rw[ER] at h';obtain⟨a,xs,rfl,q,_⟩:=h';cases r';obtain⟨its,_,p,_⟩:=I.tuple q;exact SeqAt.EqAt.int_tuple c tc p (by omega)
 | A,.str c,e,v,w,u,y,h,h',r,r',z=>by
  rw[ER] at h;subst h;obtain⟨tc,rfl⟩:=r;cases e with
  | non=>rw[ER] at h';subst h';cases r';exact SeqAt.EqAt.str_none c tc
  | bl b=>rw[ER] at h';subst h';cases r';exact SeqAt.EqAt.str_bool c tc b
  | int b=>rw[ER] at h';subst h';obtain⟨t,rfl⟩:=r';exact SeqAt.EqAt.str_int c tc b t
  | str b=>rw[ER] at h';subst h';obtain⟨t,rfl⟩:=r';exact SeqAt.EqAt.str_str c tc b t
  | lst es=>rw[ER] at h';obtain⟨a,xs,rfl,q,_⟩:=h';cases r';obtain⟨its,_,p,_⟩:=I.list q;exact SeqAt.EqAt.str_list c tc p.isList (by omega)
  | tup es=>rw[ER] at h';obtain⟨a,xs,rfl,q,_⟩:=h';cases r';obtain⟨its,_,p,_⟩:=I.tuple q;exact SeqAt.EqAt.str_tuple c tc p (by omega)
 | A,.lst ds,e,v,w,u,y,h,h',r,r',z=>by
  have h0:=h;rw[ER] at h;obtain⟨a,xs,rfl,q,qs⟩:=h;cases r;obtain⟨its,rv,p,_⟩:=I.list q;cases e with
  | non=>rw[ER] at h';subst h';cases r';exact SeqAt.EqAt.list_none p.isList (by omega)
  | bl b=>rw[ER] at h';subst h';cases r';exact SeqAt.EqAt.list_bool b p.isList (by omega)
  | int b=>rw[ER] at h';subst h';obtain⟨t,rfl⟩:=r';exact SeqAt.EqAt.list_int b t p.isList (by omega)
  | str b=>rw[ER] at h';subst h';obtain⟨t,rfl⟩:=r';exact SeqAt.EqAt.list_str b t p.isList (by omega)
  | tup es=>rw[ER] at h';obtain⟨b,ys,rfl,q',_⟩:=h';cases r';obtain⟨its',_,p',_⟩:=I.tuple q';exact SeqAt.EqAt.list_tuple p.isList p' (by omega)
  | lst es=>
   have h0':=h';rw[ER] at h';obtain⟨b,ys,rfl,q',qs'⟩:=h';cases r';obtain⟨its',rv',p',_⟩:=I.list q';by_cases hab:a=b
   · subst hab;rw[LO I _ _ _ h0 h0',Me];exact Dl _
   · refine SeqAt.EqAt.of_refs hab ?_;rw[Fx];rw[Hs] at z;have l1:=qs.length;have l2:=qs'.length;have l3:=rv.length;have l4:=rv'.length;by_cases hl:ds.length=es.length
     · rw[←JQ ds es hl];have:=SeqAt.RcAt.lists (e:=Ju ds es) p.isList p'.isList (by simp;omega) (by omega) (λj h1 h2=>?_) (A:=A)
       · simp only[Ag] at this;rw[show ds.length=its.length by omega];exact this
       · have:=JM I A.in1 ds es xs ys its its' qs qs' rv rv' (by rw[Co];omega) j (by simpa using h1) (by simpa using h2);simpa using this
     · rw[Jr hl];exact B_ p.isList p'.isList (by simp;omega) (by omega)
 | A,.tup ds,e,v,w,u,y,h,h',r,r',z=>by
  have h0:=h;rw[ER] at h;obtain⟨a,xs,rfl,q,qs⟩:=h;cases r;obtain⟨its,rv,p,_⟩:=I.tuple q;cases e with
  | non=>rw[ER] at h';subst h';cases r';exact SeqAt.EqAt.tuple_none p (by omega)
  | bl b=>rw[ER] at h';subst h';cases r';exact SeqAt.EqAt.tuple_bool b p (by omega)
  | int b=>rw[ER] at h';subst h';obtain⟨t,rfl⟩:=r';exact SeqAt.EqAt.tuple_int b t p (by omega)
  | str b=>rw[ER] at h';subst h';obtain⟨t,rfl⟩:=r';exact SeqAt.EqAt.tuple_str b t p (by omega)
  | lst es=>rw[ER] at h';obtain⟨b,ys,rfl,q',_⟩:=h';cases r';obtain⟨its',_,p',_⟩:=I.list q';exact SeqAt.EqAt.tuple_list p p'.isList (by omega)
  | tup es=>
   have h0':=h';rw[ER] at h';obtain⟨b,ys,rfl,q',qs'⟩:=h';cases r';obtain⟨its',rv',p',_⟩:=I.tuple q';by_cases hab:a=b
   · subst hab;rw[LO I _ _ _ h0 h0',Me];exact Dl _
   · refine SeqAt.EqAt.of_refs hab ?_;rw[Fx];rw[Hs] at z;have l1:=qs.length;have l2:=qs'.length;have l3:=rv.length;have l4:=rv'.length;have:=CL (e:=Ju ds es) p p' (by omega) (λj h1 h2=>?_) (A:=A)
     · simp only[Ag] at this;by_cases hl:ds.length=es.length
       · rw[←JQ ds es hl];rw[show min its.length its'.length=ds.length by omega,show(its.length==its'.length)=true by simp;omega,AZ] at this;exact this
       · rw[Jr hl];rw[show(its.length==its'.length)=false by simp;omega,Bm] at this;exact this
     · have:=JM I A.in1 ds es xs ys its its' qs qs' rv rv' (by rw[Co];omega) j (by simpa using h1) (by simpa using h2);simpa using this
theorem JM(I:Inv X pins σ H s):∀(A:Be)(ds es:List PD)(vs ws:List V)(us ys:List Value),Reps X.K H ds vs→Reps X.K H es ws→Vals vs us→Vals ws ys→A.units+Hw ds<cLine→
 ∀(j:Nat)(h1:j<us.length)(h2:j<ys.length),SeqAt.EqAt A s us[j] ys[j] (Ju ds es j)
 | A,[],es,vs,ws,us,ys,h,h',r,r',z=>by rw[Reps] at h;subst h;cases r;intro j h1;exact absurd h1 (Nat.not_lt_zero _)
 | A,d::ds,es,vs,ws,us,ys,h,h',r,r',z=>by
  rw[Reps] at h;obtain⟨x,vr,rfl,g1,g2⟩:=h;cases es with
  | nil=> rw[Reps] at h';subst h';cases r';intro j h1 h2;exact absurd h2 (Nat.not_lt_zero _)
  | cons e es=>
   rw[Reps] at h';obtain⟨x',vr',rfl,g1',g2'⟩:=h';cases r with
   | cons ra rb=>
    cases r' with
    | cons ra' rb'=>
     rw[Hw] at z;intro j h1 h2;cases j with
     | zero=>exact Q9 I A d e x x' _ _ g1 g1' ra ra' (by omega)
     | succ j=>exact JM I A ds es vr vr' _ _ g2 g2' rb rb' (by omega) j (by simpa using h1) (by simpa using h2)
end
section
variable{R:Result→Shared→Prop}{J:Addr}{fo wo:List Addr}{len:Nat}{At:Nat→Value→Prop}{Sx:Nat→Heap→Prop}
end
section
variable{R:Result→Shared→Prop}{J:Addr}{fo wo:List Addr}{len:Nat}{At:Nat→Value→Prop}{Sx:Nat→Heap→Prop}
end
theorem Rp(I:Inv X pins σ H s)(A:Be)(d e:PD)(v w:V)(u y:Value)(h:ER X.K H d v)(h':ER X.K H e w)(r:RelV v u)(r':RelV w y)(z:A.units+Hs d<cLine):SeqAt.RcAt A s u y (Fx d e):=by
 cases d with
 | non=>
  rw[ER] at h;subst h;cases r;cases e with
  | non=> rw[ER] at h';subst h';cases r';rw[Fx];exact SeqAt.RcAt.none_none
  | bl b=> rw[ER] at h';subst h';cases r';exact SeqAt.RcAt.none_bool b
  | int b=> rw[ER] at h';subst h';obtain⟨t,rfl⟩:=r';exact SeqAt.RcAt.none_int b t
  | str b=> rw[ER] at h';subst h';obtain⟨t,rfl⟩:=r';exact SeqAt.RcAt.none_str b t
  | lst es=> rw[ER] at h';obtain⟨b,ys,rfl,q',qs'⟩:=h';cases r';obtain⟨its',rv',p',_⟩:=I.list q';exact SeqAt.RcAt.none_list p'.isList (by omega)
  | tup es=> rw[ER] at h';obtain⟨b,ys,rfl,q',qs'⟩:=h';cases r';obtain⟨its',rv',p',_⟩:=I.tuple q';exact SeqAt.RcAt.none_tuple p' (by omega)
 | bl c=>
  rw[ER] at h;subst h;cases r;cases e with
  | non=> rw[ER] at h';subst h';cases r';exact SeqAt.RcAt.bool_none c
  | bl b=> rw[ER] at h';subst h';cases r';exact SeqAt.RcAt.bool_bool c b
  | int b=> rw[ER] at h';subst h';obtain⟨t,rfl⟩:=r';exact SeqAt.RcAt.bool_int c b t
  | str b=> rw[ER] at h';subst h';obtain⟨t,rfl⟩:=r';exact SeqAt.RcAt.bool_str c b t
  | lst es=> rw[ER] at h';obtain⟨b,ys,rfl,q',qs'⟩:=h';cases r';obtain⟨its',rv',p',_⟩:=I.list q';exact SeqAt.RcAt.bool_list c p'.isList (by omega)
  | tup es=> rw[ER] at h';obtain⟨b,ys,rfl,q',qs'⟩:=h';cases r';obtain⟨its',rv',p',_⟩:=I.tuple q';exact SeqAt.RcAt.bool_tuple c p' (by omega)
 | int c=>
  rw[ER] at h;subst h;obtain⟨tc,rfl⟩:=r;cases e with
  | non=> rw[ER] at h';subst h';cases r';exact SeqAt.RcAt.int_none c tc
  | bl b=> rw[ER] at h';subst h';cases r';exact SeqAt.RcAt.int_bool c tc b
  | int b=> rw[ER] at h';subst h';obtain⟨t,rfl⟩:=r';exact SeqAt.RcAt.int_int c tc b t
  | str b=> rw[ER] at h';subst h';obtain⟨t,rfl⟩:=r';exact SeqAt.RcAt.int_str c tc b t
  | lst es=> rw[ER] at h';obtain⟨b,ys,rfl,q',qs'⟩:=h';cases r';obtain⟨its',rv',p',_⟩:=I.list q';exact SeqAt.RcAt.int_list c tc p'.isList (by omega)
  | tup es=> rw[ER] at h';obtain⟨b,ys,rfl,q',qs'⟩:=h';cases r';obtain⟨its',rv',p',_⟩:=I.tuple q';exact SeqAt.RcAt.int_tuple c tc p' (by omega)
 | str c=>
  rw[ER] at h;subst h;obtain⟨tc,rfl⟩:=r;cases e with
  | non=> rw[ER] at h';subst h';cases r';exact SeqAt.RcAt.str_none c tc
  | bl b=> rw[ER] at h';subst h';cases r';exact SeqAt.RcAt.str_bool c tc b
  | int b=> rw[ER] at h';subst h';obtain⟨t,rfl⟩:=r';exact SeqAt.RcAt.str_int c tc b t
  | str b=> rw[ER] at h';subst h';obtain⟨t,rfl⟩:=r';exact SeqAt.RcAt.str_str c tc b t
  | lst es=> rw[ER] at h';obtain⟨b,ys,rfl,q',qs'⟩:=h';cases r';obtain⟨its',rv',p',_⟩:=I.list q';exact SeqAt.RcAt.str_list c tc p'.isList (by omega)
  | tup es=> rw[ER] at h';obtain⟨b,ys,rfl,q',qs'⟩:=h';cases r';obtain⟨its',rv',p',_⟩:=I.tuple q';exact SeqAt.RcAt.str_tuple c tc p' (by omega)
 | lst ds=>
  rw[ER] at h;obtain⟨a,xs,rfl,q,qs⟩:=h;cases r;obtain⟨its,rv,p,_⟩:=I.list q;cases e with
  | non=> rw[ER] at h';subst h';cases r';exact SeqAt.RcAt.list_none p.isList (by omega)
  | bl b=> rw[ER] at h';subst h';cases r';exact SeqAt.RcAt.list_bool b p.isList (by omega)
  | int b=> rw[ER] at h';subst h';obtain⟨t,rfl⟩:=r';exact SeqAt.RcAt.list_int b t p.isList (by omega)
  | str b=> rw[ER] at h';subst h';obtain⟨t,rfl⟩:=r';exact SeqAt.RcAt.list_str b t p.isList (by omega)
  | lst es=>
   rw[ER] at h';obtain⟨b,ys,rfl,q',qs'⟩:=h';cases r';obtain⟨its',rv',p',_⟩:=I.list q';rw[Fx];rw[Hs] at z;have l1:=qs.length;have l2:=qs'.length;have l3:=rv.length;have l4:=rv'.length;by_cases hl:ds.length=es.length
   · rw[←JQ ds es hl];have:=SeqAt.RcAt.lists (e:=Ju ds es) p.isList p'.isList (by simp;omega) (by omega) (λj h1 h2=>?_) (A:=A)
     · simp only[Ag] at this;rw[show ds.length=its.length by omega];exact this
     · have:=JM I A.in1 ds es xs ys its its' qs qs' rv rv' (by rw[Co];omega) j (by simpa using h1) (by simpa using h2);simpa using this
   · rw[Jr hl];exact B_ p.isList p'.isList (by simp;omega) (by omega)
  | tup es=> rw[ER] at h';obtain⟨b,ys,rfl,q',qs'⟩:=h';cases r';obtain⟨its',rv',p',_⟩:=I.tuple q';exact SeqAt.RcAt.list_tuple p.isList p' (by omega)
 | tup ds=>
  rw[ER] at h;obtain⟨a,xs,rfl,q,qs⟩:=h;cases r;obtain⟨its,rv,p,_⟩:=I.tuple q;cases e with
  | non=> rw[ER] at h';subst h';cases r';exact SeqAt.RcAt.tuple_none p (by omega)
  | bl b=> rw[ER] at h';subst h';cases r';exact SeqAt.RcAt.tuple_bool b p (by omega)
  | int b=> rw[ER] at h';subst h';obtain⟨t,rfl⟩:=r';exact SeqAt.RcAt.tuple_int b t p (by omega)
  | str b=> rw[ER] at h';subst h';obtain⟨t,rfl⟩:=r';exact SeqAt.RcAt.tuple_str b t p (by omega)
  | lst es=> rw[ER] at h';obtain⟨b,ys,rfl,q',qs'⟩:=h';cases r';obtain⟨its',rv',p',_⟩:=I.list q';exact SeqAt.RcAt.tuple_list p p'.isList (by omega)
  | tup es=>
   rw[ER] at h';obtain⟨b,ys,rfl,q',qs'⟩:=h';cases r';obtain⟨its',rv',p',_⟩:=I.tuple q';rw[Fx];rw[Hs] at z;have l1:=qs.length;have l2:=qs'.length;have l3:=rv.length;have l4:=rv'.length;have:=CL (e:=Ju ds es) p p' (by omega) (λj h1 h2=>?_) (A:=A)
   · simp only[Ag] at this;by_cases hl:ds.length=es.length
     · rw[←JQ ds es hl];rw[show min its.length its'.length=ds.length by omega,show(its.length==its'.length)=true by simp;omega,AZ] at this;exact this
     · rw[Jr hl];rw[show(its.length==its'.length)=false by simp;omega,Bm] at this;exact this
   · have:=JM I A.in1 ds es xs ys its its' qs qs' rv rv' (by rw[Co];omega) j (by simpa using h1) (by simpa using h2);simpa using this
def Ia(X:Cx):Prop:=X.A.units+60<cLine
def Kf(K:Ad):R2:=λx y H Q=>∃d e,ER K H d x∧ER K H e y∧Hs d<60∧Q (.bl (Fx d e)) H
theorem Qq(hr:Ia X):FB X (AK .Eq) (Kf X.K):=by intro pins s σ H x y v u Q I rx ry h;obtain⟨d,e,h1,h2,h3,q⟩:=h;unfold Ia at hr;exact Rp I X.A d e x y v u h1 h2 rx ry (by omega) X.prog X.w _ _ ⟨.bl _,H,I,rfl,q⟩
theorem JP(hr:Room k A):A.units+60<cLine:=Nat.lt_of_le_of_lt (Nat.add_le_add_left (by decide:60≤64) _) hr.units
theorem FD{n:String}:GO X (.builtin "isinstance") (λxs H Q=>∃x t c b,xs=[x,.ty c]∧TyOf X.K H x (.type t)∧Ce X.K (.type t) (.type c)=some b∧Q (.bl b) H):=by intro pins s σ H xs us Q I r h;obtain⟨x,t,c,b,rfl,ty,e,q⟩:=h;obtain⟨u,w',rfl,ru,rw'⟩:=N4 r;cases rw';exact Q_ I ru ty e λtk=>⟨.bl b,H,I.tok tk,rfl,q⟩
section
variable{p:Addr}{g:TG}{tc:TT}{te:TE}{Q:VK}
abbrev Jm(p:Addr)(g:TG)(tc:TT)(te:TE)(ys:List V)(x:V)(σ:St)(H:Hp)(N:St→List V→Hp→Prop):Prop:=
 g x σ H λσ2 H2=>tc σ2 H2 λb H3=>if b=true then te σ2 H3 λy H4=>H4 p=some (.lst ys)∧N σ2 (ys++[y]) (EO H4 p (.lst (ys++[y]))) else N σ2 ys H3
theorem JF{n:Nat}{J:It}{js:G5}(Pv:Nat→St→List V→Hp→Prop)(h0:Pv 0 (GW js σ) [] (EO H p (.lst [])))
 (hl:∀i σ ys H,i≤n→Pv i σ ys H→H p=some (.lst ys)∧ys.length<Ak)
 (hgo:∀i σ ys H,i<n→Pv i σ ys H→J.go i H) (hst:∀σ ys H,Pv n σ ys H→J.stop n H)
 (hs:∀(i:Nat)x σ ys H H'(N:St→List V→Hp→Prop),i<n→J.yld i H x H'→Pv i σ ys H→(∀σ' ys' H',Pv (i+1) σ' ys' H'→N σ' ys' H')→Jm p g tc te ys x σ H' N)
 (hd:∀σ ys H,Pv n σ ys H→Q (.ref p) H):
 Ij J p js g tc te σ H Q:=by
 refine⟨λi m σ ys H=>m=n - i∧i≤n∧Pv i σ ys H,⟨n,by simp,BA _,h0⟩,?_⟩;rintro i m σ ys H ⟨rfl,hi,pv⟩;obtain⟨q1,q2⟩:=hl i σ ys H hi pv;refine⟨q1,?_⟩;by_cases lt:i<n
 · exact .inr ⟨hgo i σ ys H lt pv,q2,λx H' y=>hs i x σ ys H H' (λσ2 ys2 H2=>∃m',m'<n - i∧m'=n - (i+1)∧i+1≤n∧Pv (i+1) σ2 ys2 H2) lt y pv λσ' ys' H' p'=>⟨n - (i+1),by omega,rfl,lt,p'⟩⟩
 · have e:i=n:=by omega
   subst e;exact .inl ⟨hst σ ys H pv,hd σ ys H pv⟩
theorem QR{js:G5}(Pv:Nat→St→List V→Hp→Prop)(h0:Pv 0 (GW js σ) [] (EO H p (.lst [])))
 (hl:∀i σ ys H,i≤xs.length→Pv i σ ys H→SqL K H a xs∧H p=some (.lst ys)∧ys.length<Ak)
 (hs:∀(i:Nat)x σ ys H(N:St→List V→Hp→Prop),xs[i]?=some x→Pv i σ ys H→(∀σ' ys' H',Pv (i+1) σ' ys' H'→N σ' ys' H')→Jm p g tc te ys x σ H N)
 (hd:∀σ ys H,Pv xs.length σ ys H→Q (.ref p) H):Ij (Jf K a) p js g tc te σ H Q:=
 JF (n:=xs.length) (J:=Jf K a) (js:=js) (σ:=σ) (H:=H) (p:=p) (Q:=Q) (g:=g) (tc:=tc) (te:=te) Pv h0 (λi σ ys H hi pv=>(hl i σ ys H hi pv).2)
  (λi σ ys H hi pv=>⟨xs,xs[i],(hl i σ ys H (AQ hi) pv).1,by simp[hi]⟩) (λσ ys H pv=>⟨xs,(hl _ σ ys H (Ae _) pv).1,Ae _⟩)
  (λi x σ ys H H' N hi y pv hN=>by obtain⟨e,y⟩:=y;subst e;exact hs i x σ ys _ N (y xs (hl i σ ys _ (AQ hi) pv).1) pv hN) hd
theorem Jn{js:G5}(Pv:Nat→St→List V→Hp→Prop)(h0:Pv 0 (GW js σ) [] (EO H p (.lst [])))
 (hl:∀i σ ys H,i≤xs.length→Pv i σ ys H→SqT K H a xs∧H p=some (.lst ys)∧ys.length<Ak)
 (hs:∀(i:Nat)x σ ys H(N:St→List V→Hp→Prop),xs[i]?=some x→Pv i σ ys H→(∀σ' ys' H',Pv (i+1) σ' ys' H'→N σ' ys' H')→Jm p g tc te ys x σ H N)
 (hd:∀σ ys H,Pv xs.length σ ys H→Q (.ref p) H):Ij (Je K a) p js g tc te σ H Q:=
 JF (n:=xs.length) (J:=Je K a) (js:=js) (σ:=σ) (H:=H) (p:=p) (Q:=Q) (g:=g) (tc:=tc) (te:=te) Pv h0 (λi σ ys H hi pv=>(hl i σ ys H hi pv).2)
  (λi σ ys H hi pv=>⟨xs,xs[i],(hl i σ ys H (AQ hi) pv).1,by simp[hi]⟩) (λσ ys H pv=>⟨xs,(hl _ σ ys H (Ae _) pv).1,Ae _⟩)
  (λi x σ ys H H' N hi y pv hN=>by obtain⟨e,y⟩:=y;subst e;exact hs i x σ ys _ N (y xs (hl i σ ys _ (AQ hi) pv).1) pv hN) hd
theorem R5{js:G5}{lo:Int}{n:Nat}(Pv:Nat→St→List V→Hp→Prop)(h0:Pv 0 (GW js σ) [] (EO H p (.lst [])))
 (hl:∀i σ ys H,i≤n→Pv i σ ys H→H p=some (.lst ys)∧ys.length<Ak)
 (hs:∀(i:Nat)σ ys H(N:St→List V→Hp→Prop),i<n→Pv i σ ys H→(∀σ' ys' H',Pv (i+1) σ' ys' H'→N σ' ys' H')→Jm p g tc te ys (.int (lo+i)) σ H N)
 (hd:∀σ ys H,Pv n σ ys H→Q (.ref p) H):Ij (Iy lo n) p js g tc te σ H Q:=
 JF (n:=n) (J:=Iy lo n) (js:=js) (σ:=σ) (H:=H) (p:=p) (Q:=Q) (g:=g) (tc:=tc) (te:=te) Pv h0 hl
  (λi σ ys H hi pv=>hi) (λσ ys H pv=>Ae n)
  (λi x σ ys H H' N hi y pv hN=>by obtain⟨e,y⟩:=y;subst e y;exact hs i σ ys _ N hi pv hN) hd
end
def OD(outer:Scope)(N N':List Str)(js:G5)(scope:Scope):Bool:=
 decide (js.length=N'.length) && (scope.kind== .function) && scope.names.all (λp=>(p.2 != .cell || scope.names.lookup p.1==some .cell) && (p.2 != .local || scope.names.lookup p.1==some .local) && (p.2 != .free || (outer.names.lookup p.1==some .cell || outer.names.lookup p.1==some .free)))
  && (Ba js.length).all λi=>match js[i]? with
   | some (some j)=>(match N'[i]? with | some x=>N[j]?==some x && scope.names.lookup x==some .free | none=>false)
   | _=>true
theorem G7{N N':List Str}{js:G5}{outer:Scope}(h:OD outer N N' js scope=true)(hN:X.N=N:=by rfl)(ho:X.env.scope=outer:=by rfl):CapOk X N' js scope:=by
 subst hN ho;unfold OD at h;rw[Ah,Ah,Ah] at h;obtain⟨⟨⟨h1,h2⟩,h3⟩,h4⟩:=h;rw[List.all_eq_true] at h3 h4;refine⟨of_decide_eq_true h1,eq_of_beq h2,λp hp e=>?_,λp hp e=>?_,λp hp e=>?_,λi j e=>?_⟩
 · have:=h3 p hp;rw[e] at this;simp at this;exact this
 · have:=h3 p hp;rw[e] at this;simp at this;exact this
 · have:=h3 p hp;rw[e] at this;simp at this;exact this
 · have hi:i<js.length:=(Az.mp e).1;have:=h4 i (Dv.mpr hi);rw[e] at this;simp only at this;cases q:N'[i]? with
   | none=>rw[q] at this;cases this
   | some x=> rw[q] at this;simp only[Ah,beq_iff_eq] at this;exact⟨x,rfl,this.1,this.2⟩
def Fn(P:A_)(w:World)(K:Ad)(mg:Str→Option Value)(base:Heap)(k:Nat)(x:Str)(ps:List Str)(sp:Sp):Prop:=
 ∃f fd,FnOk P w K mg base Fe k f fd ps sp∧Binds K fd ps []∧BI K (.ref f)=true∧mg x=some (.ref f)
section
variable{ps:List Str}{sp:Sp}{es:List Expr}{t:TA}{p:Pos}
theorem ET(F:Fn X.prog X.w X.K X.mg X.base k x ps sp)(hr:Room k X.A)(hg:Gl X x)(ha:PA X (e::es) t)(hdb:(x==("__debug__":Str))=false:=by decide)
 (he:Av (e::es) X.env=(false,eval e X.env)::Av es X.env:=by rfl) (hpl:(backTo pos (Av es X.env)).any (·.1)=false:=by rfl):PE X (.Call (.Name x p) (e::es) [] pos) (Jk sp [] E0 t):=by
 obtain⟨f,fd,h1,h2,h3,h4⟩:=F;exact QC h1 hr hg h4 h3 h2 .nil N8 ha hdb he hpl
end
structure Bl(mg:Str→Option Value):Prop where
 len_:mg "len"=none
 range_:mg "range"=none
 isinstance_:mg "isinstance"=none
 int_:mg "int"=none
 bool_:mg "bool"=none
 tuple_:mg "tuple"=none
 list_:mg "list"=none
 max_:mg "max"=none
 min_:mg "min"=none
 all_:mg "all"=none
 zip_:mg "zip"=none
 str_:mg "str"=none
 dict_:mg "dict"=none
 sorted_:mg "sorted"=none
 set_:mg "set"=none
 any_:mg "any"=none
 sum_:mg "sum"=none
 enumerate_:mg "enumerate"=none
 repr_:mg "repr"=none
 ord_:mg "ord"=none
 chr_:mg "chr"=none
 abs_:mg "abs"=none
 reversed_:mg "reversed"=none
theorem JJ:AA "int"=some (.type "int"):=by decide+kernel
theorem LU:AA "bool"=some (.type "bool"):=by decide+kernel
theorem Gc:AA "tuple"=some (.type "tuple"):=by decide+kernel
theorem Oi:AA "list"=some (.type "list"):=by decide+kernel
theorem JK:AA "str"=some (.type "str"):=by decide+kernel
theorem Qc:AA "set"=some (.type "set"):=by decide+kernel
theorem FE:AA "isinstance"=some (.builtin "isinstance"):=by decide+kernel
theorem FP:AA "len"=some (.builtin "len"):=by decide+kernel
theorem HF:AA "all"=some (.builtin "all"):=by decide+kernel
theorem Rw:AA "sorted"=some (.builtin "sorted"):=by decide+kernel
theorem FH(h:n≤1000):n≤Ak:=AQ (G2 h)
theorem EW{p:Addr}(h:H p=none)(o:HO):Same H (EO H p o):=λb u q=>by rw[Fz (GU q h)];exact q
def eV:Option Int→V
 | none=> .non
 | some i=> .int i
def Nm:Int:=618970019642690137449562111
structure Bag(H:Hp)(b g l:Addr)(n:Int):Prop where
 ex:∃(gs ls:List Int)(c st:Int),H b=some (.lst [.ref g,.ref l,.int c,.int st])∧H g=some (.lst (gs.map V.int))∧H l=some (.lst (ls.map V.int))∧
  gs.length≤63∧0<ls.length∧ls.length≤64∧(∀x∈ls,0≤x∧x<10^18)∧0≤c∧c≤n∧0≤st∧st<Nm
 gl:g≠l
def SameB(b g:Addr)(H H':Hp):Prop:=∀a o,H a=some o→a≠b→a≠g→H' a=some o
theorem SameB.refl(b g:Addr)(H:Hp):SameB b g H H:=λ_ _ h _ _=>h
theorem SameB.trans{g:Addr}{H1 H2:Hp}(x:SameB b g H H1)(y:SameB b g H1 H2):SameB b g H H2:=λa o h n1 n2=>y a o (x a o h n1 n2) n1 n2
theorem Same.sameB{g:Addr}{H1:Hp}(x:Same H H1):SameB b g H H1:=λa o h _ _=>x a o h
theorem Ga{α:Type}{x:α}{r:List α}:F_ (x::r) 0=some x:=Ib (j:=0) rfl
theorem Qa{ls:List Int}{i:Int}(h0:0≤i)(h1:i<(ls.length:Int)):∃v,F_ (ls.map V.int) i=some (.int v)∧v∈ls:=by
 obtain⟨k,rfl⟩:=Db h0;have hk:k<ls.length:=by omega
 exact⟨ls[k],Ib (by rw[A5,AB hk];rfl),List.getElem_mem _⟩
theorem Lm:(0:Nat)≤Ak:=BA _
theorem FS{α:Type}{l:List α}{x:α}(h:l[i]?=some x):l.take (i+1)=l.take i++[x]:=by rw[List.take_succ,h];rfl
theorem Same.seqT{H':Hp}(e:Same H H')(h:SqT K H a xs):SqT K H' a xs:=by
 rcases h with(h | ⟨o,h⟩) | h
 · exact .inl (.inl (e _ _ h))
 · exact .inl (.inr ⟨o,e _ _ h⟩)
 · exact .inr h
end L2
set_option maxHeartbeats 1000000
namespace L2
section
variable{base:Heap}{l:List Env}{H':Hp}{s0 s':Shared}{C t:Addr}{B h':Heap}
end
section
variable{H':Hp}{s':Shared}{C:Addr}
end
def del(H:Hp)(a:Addr):Hp:=λb=>if b=a then none else H b
section
variable{e C:Addr}
end
section
variable{g:Array GenState}{d:Drawn}{t:Nat}{os:OsState}{nm q:Str}{C N:Addr}{bs bm bmB:List Value}{hdct:Bool}{sn:List Str}{sub:List Value}
variable{ab:Bool}{col:Option Bool}{dd:Option Addr}{k0 k1 k2 k3 k5:Option Value}{B newId initId:String}{FM:List Value}
end
section
variable{g:Array GenState}{d:Drawn}{t:Nat}{os:OsState}{nm q:Str}{C N:Addr}{bs bm bmB:List Value}{hdct:Bool}{sn:List Str}{sub:List Value}
variable{ab:Bool}{col:Option Bool}{dd:Option Addr}{k0 k1 k2 k3 k5:Option Value}{B newId initId:String}{FM:List Value}
end
section
variable{mg:Str→Option Value}{base:Heap}{N:List Str}{qual:Str}{f:Addr}{cd:Value}{outer:List Env}{E:XK}
end
section
variable{mg:Str→Option Value}{base:Heap}{N:List Str}{qual:Str}{f:Addr}{cd:Value}{outer:List Env}{E:XK}
end
section
variable{E:XK}{C fI:Addr}{fd:AJ}{e1:Expr}{t:TA}{np cpos:Pos}
end
section
variable{o:HO}
end
section
variable{pins':List (Addr×Obj)}{RR:St→Value→Hp→Prop}
end
section
variable{base:Heap}{l:List Env}{H':Hp}{s0 s':Shared}{C t:Addr}{B:Heap}
end
section
variable{M:Model}{g:Array GenState}{d:Drawn}{t:Nat}{os:OsState}{nm q nm0 q0:Str}{C N C0 N0 e:Addr}{bs bm bs0 bm0:List Value}{hdct hdct0:Bool}{sn sn0:List Str}{sub sub0:List Value}
variable{ab ab0:Bool}{col col0:Option Bool}{dd dd0:Option Addr}{k0 k1 k2 k3 k5 j0 j1 j2 j3 j5:Option Value}{newId newId0:String}{oe:Obj}
end
section
variable{C0:Addr}{n:Str}{body suite:List Stmt}{b₀:Stmt}{np hpos:Pos}{tb:(St→Value→Hp→Prop)→TS}{ts:TS}
end
open PySem.W (Looks looks_findIn looks_mroIn looks_typeIn)
section
variable{g:Array GenState}{d:Drawn}{t:Nat}{os:OsState}{C:Addr}
end
def Kw(xs:List V):It:=⟨λi _=>i<xs.length,λi H x H'=>H'=H∧xs[i]?=some x,λi _=>xs.length≤i⟩
theorem S_{tg:Expr}(it:Addr)(x:Str)(t:Tok):Turn P w K tg (Kw (x.cps.toList.map λc=>V.str ⟨#[c]⟩)) [it] it (λi h=>h.IsStrIter it "str_ascii_iterator" x t i) where
 mem:=by simp
 obj:=λi h st b hb=>by
  have e:b=it:=by simpa using hb
  subst e;obtain⟨o,e,c,d⟩:=st;exact⟨o,e,λv z=>by rw[d] at z;cases z⟩
 keep:=λi h h' st k=>let⟨o,ho,r⟩:=st;⟨o,k it (by simp) o ho,r⟩
 item:=by
  intro X hP hw hK hc i pins s σ H E I hf st hg;subst hP hw hK;have hg:i<(x.cps.toList.map λc=>V.str ⟨#[c]⟩).length:=hg;rw[Ab,A3] at hg;obtain⟨f0,f1,f2,f3,f4,f5⟩:=hf it (by simp);refine wpAny_pyNext_ascii_item st (c:=x.cps[i]) (by simp[hg]) λh' st' sb=>?_;have I1:Inv X pins σ H {s with heap:=h',toks:=s.toks+1}:=I.turned (λb o hb e=>(sb.2 b hb).trans e) f0 f1 f3 f4 f5
  obtain⟨o,e,c,d⟩:=id st';exact⟨_,rfl,Jz (s:={s with heap:=h',toks:=s.toks+1}) e c d (by decide) ⟨.str ⟨#[x.cps[i]]⟩,H,I1,⟨_,rfl⟩,⟨rfl,by rw[A5,Cr,CT hg];rfl⟩,st',λb hb=>(hf b hb).1⟩⟩
 done:=by intro X hP hw hK hc i pins s σ H E I hf st hg;subst hP hw hK;have hg:(x.cps.toList.map λc=>V.str ⟨#[c]⟩).length≤i:=hg;rw[Ab,A3] at hg;obtain⟨f0,f1,f2,f3,f4,f5⟩:=hf it (by simp);exact wpAny_pyNext_ascii_end (I.ok.hd hc) st (by simpa using hg) λh' eb=>⟨rfl,I.turned (t':=s.toks) (λb o hb e=>eb b o hb e) f0 f1 f3 f4 f5⟩
 self:=λ_ _ _ _ _ st h=>wpAny_pyIter_striter_ascii st h
theorem Tp{tg:Expr}(it:Addr)(x:Str)(t:Tok):Turn P w K tg (Kw (x.cps.toList.map λc=>V.str ⟨#[c]⟩)) [it] it (λi h=>h.IsStrIter it "str_iterator" x t i) where
 mem:=by simp
 obj:=λi h st b hb=>by
  have e:b=it:=by simpa using hb
  subst e;obtain⟨o,e,c,d⟩:=st;exact⟨o,e,λv z=>by rw[d] at z;cases z⟩
 keep:=λi h h' st k=>let⟨o,ho,r⟩:=st;⟨o,k it (by simp) o ho,r⟩
 item:=by
  intro X hP hw hK hc i pins s σ H E I hf st hg;subst hP hw hK;have hg:i<(x.cps.toList.map λc=>V.str ⟨#[c]⟩).length:=hg;rw[Ab,A3] at hg;obtain⟨f0,f1,f2,f3,f4,f5⟩:=hf it (by simp);refine wpAny_pyNext_wide_item st (c:=x.cps[i]) (by simp[hg]) λh' st' sb=>?_;have I1:Inv X pins σ H {s with heap:=h',toks:=s.toks+1}:=I.turned (λb o hb e=>(sb.2 b hb).trans e) f0 f1 f3 f4 f5
  obtain⟨o,e,c,d⟩:=id st';exact⟨_,rfl,Jz (s:={s with heap:=h',toks:=s.toks+1}) e c d (by decide) ⟨.str ⟨#[x.cps[i]]⟩,H,I1,⟨_,rfl⟩,⟨rfl,by rw[A5,Cr,CT hg];rfl⟩,st',λb hb=>(hf b hb).1⟩⟩
 done:=by intro X hP hw hK hc i pins s σ H E I hf st hg;subst hP hw hK;have hg:(x.cps.toList.map λc=>V.str ⟨#[c]⟩).length≤i:=hg;rw[Ab,A3] at hg;obtain⟨f0,f1,f2,f3,f4,f5⟩:=hf it (by simp);exact wpAny_pyNext_wide_end (I.ok.hd hc) st (by simpa using hg) λh' eb=>⟨rfl,I.turned (t':=s.toks) (λb o hb e=>eb b o hb e) f0 f1 f3 f4 f5⟩
 self:=λ_ _ _ _ _ st h=>wpAny_pyIter_striter_wide st h
section
variable{tg:Expr}
def signs(x:Str):List V:=x.cps.toList.map λc=>V.str ⟨#[c]⟩
def Nj(tl:TE):TI:=λσ H R=>tl σ H λv H1=>∃x,v= .str x∧R (Kw (signs x)) H1
theorem ND{l:Expr}{tl:TE}(hl:PE X l tl):PI X tg l (Nj tl):=by
 intro pins s σ H R I h;refine EY (hl pins s σ H _ I h) λv s1 ⟨y,H1,I1,r1,q1⟩=>?_;obtain⟨x,e,q⟩:=q1;subst e;obtain⟨t,rfl⟩:=r1;cases ha:x.cps.all (· <128)
 · refine wpAny_pyIter_wide ha ?_;refine⟨s1.heap.objs.size,[s1.heap.objs.size],_,_,H1,rfl,I1.kept (t':=s1.toks) λb o e=>Ac _ e,Tp _ x t,⟨_,An _ rfl,rfl,rfl⟩,λb hb=>?_,q⟩;have e:b=s1.heap.objs.size:=by simpa using hb
   subst e;exact I1.fpOk (Ae _) (I1.hok.fresh (Ae _))
 · refine wpAny_pyIter_ascii ha ?_;refine⟨s1.heap.objs.size,[s1.heap.objs.size],_,_,H1,rfl,I1.kept (t':=s1.toks) λb o e=>Ac _ e,S_ _ x t,⟨_,An _ rfl,rfl,rfl⟩,λb hb=>?_,q⟩;have e:b=s1.heap.objs.size:=by simpa using hb
   subst e;exact I1.fpOk (Ae _) (I1.hok.fresh (Ae _))
theorem Md:FB X (AK .LtE) (λx y H Q=>∃i j,x= .str i∧y= .str j∧Q (.bl (!decide (j.cps.toList<i.cps.toList))) H):=by intro pins s σ H x y v u Q I rx ry h;obtain⟨i,j,rfl,rfl,q⟩:=h;obtain⟨t,rfl⟩:=rx;obtain⟨t',rfl⟩:=ry;exact PySem.P.le_str (FF I q rfl)
theorem HH(hc:X.calm=true):GO X (.builtin "all") (λxs H Q=>∃(a:Addr)(bs:List Bool),xs=[.ref a]∧SqL X.K H a (bs.map V.bl)∧Q (.bl (bs.all id)) H):=by
 intro pins s σ H xs us Q I r h;obtain⟨a,bs,rfl,hq,q⟩:=h;obtain⟨u,rfl,ru⟩:=Hq r;cases ru;obtain⟨its,rv,p,hzz⟩:=I.list hq;have ll:=rv.length;rw[Ab] at ll;refine call_all_walk (CJ p.isList ?_);obtain⟨o,ho,_⟩:=id p.isList;have lt:=Aj ho;refine⟨s.heap.objs.size,_,_,_,_,_,λi=>bs.getD i false,rfl,Walks.list (A:=X.A.in1) (I.ok.hd hc) s.heap.objs.size a (Au lt) its.toArray,⟨⟨_,An _ rfl,rfl,rfl⟩,p.isList.at λo' e=>Ac _ e⟩,?_,λg t' k=>?_⟩
 · intro i v s' Q' E' hv q';have hi:its[i]?=some v:=by simpa using hv
   have hl:i<its.length:=(Az.mp hi).1;have e:(bs.map V.bl)[i]?=some (.bl (bs.getD i false)):=by rw[A5,AB (by omega),AE,AB (by omega)];rfl
   obtain⟨u,h1,h2⟩:=Vals.get rv e;rw[hi] at h1;cases h1;cases h2;exact AM q'
 · refine⟨.bl (bs.all id),H,I.kept (λb o' e=>k b o' ?_ (Ac _ e)),?_,q⟩
   · intro z;exact absurd (Ao.mp z) (Au (Aj e))
   · show Value.bool _=Value.bool _;congr 1;rw[Ag,←ll];clear rv ll hq q p ho lt hzz
     induction bs with
     | nil=>rfl
     | cons b r ih=> rw[Aw,BH,A9,List.all_map,A9,←ih];rfl
end
theorem NX{xs:List V}{p:Addr}{g:TG}{tc:TT}{te:TE}{Q:VK}{js:G5}(Pv:Nat→St→List V→Hp→Prop)(h0:Pv 0 (GW js σ) [] (EO H p (.lst [])))
 (hl:∀i σ ys H,i≤xs.length→Pv i σ ys H→H p=some (.lst ys)∧ys.length<Ak)
 (hs:∀(i:Nat)x σ ys H(N:St→List V→Hp→Prop),xs[i]?=some x→Pv i σ ys H→(∀σ' ys' H',Pv (i+1) σ' ys' H'→N σ' ys' H')→Jm p g tc te ys x σ H N)
 (hd:∀σ ys H,Pv xs.length σ ys H→Q (.ref p) H):Ij (Kw xs) p js g tc te σ H Q:=
 JF (n:=xs.length) (J:=Kw xs) (js:=js) (σ:=σ) (H:=H) (p:=p) (Q:=Q) (g:=g) (tc:=tc) (te:=te) Pv h0 hl
  (λi σ ys H hi pv=>hi) (λσ ys H pv=>Ae _)
  (λi x σ ys H H' N hi y pv hN=>by obtain⟨e,y⟩:=y;subst e;exact hs i x σ ys _ N y pv hN) hd
section
variable{R:Result→Shared→Prop}
end
section
variable{tg iter kx vx:Expr}{ifs:List Expr}{wi:TI}{js:G5}{g:TG}{tc:TT}{tk tv:TE}{N':List Str}
end
theorem LJ{ti tp:Addr}{vs:Array Value}{v:Value}{Q:Value→Shared→Prop}(hi:s.heap.IsTupleIter ti tp k)(ht:s.heap.IsTuple tp vs)(hv:vs[k]?=some v)
 (fin:∀g,g.IsTupleIter ti tp (k+1)→CU ti s.heap g→Q v {s with heap:=g}):wpAny (model prog w) A (AF (.ref ti)) Q E s:=by
 obtain⟨oi,e1,c1,d1⟩:=id hi;obtain⟨ot,e2,_,nt,d2⟩:=ht;unfold AF;refine Aa (AT (name:=BL "__next__") hi.typeIs Bi (Bq Bi hi.typeIs Cm ?_ (Ci _)));show wpAny _ _ (field (.ref ti) 0>>=_) _ _ s;refine Aa (AG e1 d1 (x:= .ref tp) rfl ?_);show wpAny _ _ (if(Value.ref tp==Value.none)=true then _ else _) _ _ s
 rw[if_neg (show ¬((Value.ref tp==Value.none)=true) from Ar)];show wpAny _ _ (field (.ref ti) 1>>=_) _ _ s;refine Aa (AG e1 d1 (x:= .int k 0) rfl ?_);show wpAny _ _ (seqItems? (.ref tp)>>=_) _ _ s;refine Aa (Bb e2 d2 ?_);simp only[Ch,hv];refine Aa (wpAny_setField e1 d1 (by simp) (Af ⟨v,rfl,Af (fin _ ?_ (D7 ..))⟩));exact⟨_,Dy _ e1 (Obj.isFreed_of_fields (Obj.data_mapFields d1 _)),(Obj.cls_mapFields ..).trans c1,by rw[Obj.data_mapFields d1];simp[rawInt]⟩
theorem NA{ti tp:Addr}{vs:Array Value}{Q:Value→Shared→Prop}(hh:A.handled=none)(hi:s.heap.IsTupleIter ti tp k)(ht:s.heap.IsTuple tp vs)(hv:vs[k]?=none)
 (fin:∀g e,Heap.ExtBut ti s.heap g→(∃o,g.get? e=some o∧o.cls= .type "StopIteration")→E (.ref e) {s with heap:=g}):wpAny (model prog w) A (AF (.ref ti)) Q E s:=by
 obtain⟨oi,e1,c1,d1⟩:=id hi;obtain⟨ot,e2,_,nt,d2⟩:=ht;unfold AF;refine Aa (AT (name:=BL "__next__") hi.typeIs Bi (Bq Bi hi.typeIs Cm ?_ (Ci _)));show wpAny _ _ (field (.ref ti) 0>>=_) _ _ s;refine Aa (AG e1 d1 (x:= .ref tp) rfl ?_);show wpAny _ _ (if(Value.ref tp==Value.none)=true then _ else _) _ _ s
 rw[if_neg (show ¬((Value.ref tp==Value.none)=true) from Ar)];show wpAny _ _ (field (.ref ti) 1>>=_) _ _ s;refine Aa (AG e1 d1 (x:= .int k 0) rfl ?_);show wpAny _ _ (seqItems? (.ref tp)>>=_) _ _ s;refine Aa (Bb e2 d2 ?_);simp only[Ch,hv];refine Aa (CS (Aa (wpAny_setField e1 d1 (by simp) ?_)));show wpAny _ _ (newExc (.type "StopIteration") []>>=_) _ _ _;refine Aa ?_;simp only[newExc,newTuple];refine Aa (Bp ?_ (by size_fits));refine Aa (m:=firstArgMember _ _) (wpAny_of_eq (a:=Value.none) (by first | rfl | (simp only[firstArgMember];rfl)) ?_)
 refine Bp ?_ (by size_fits);simp only[raiseNew];refine Aa (wpAny_handled ?_)
 first | rw[show A.in1.handled=none from hh] | rw[hh]
 refine Aa (Af (wpAny_throw ?_));exact fin _ _ (((D7 ..).extBut.push _).push _) ⟨_,An _ rfl,rfl⟩
structure ZA(z a b i j:Addr):Prop where
 az:a≠z
 bz:b≠z
 iz:i≠z
 jz:j≠z
 ab:a≠b
 ai:a≠i
 aj:a≠j
 bi:b≠i
 bj:b≠j
 ij:i≠j
theorem HI{h':Heap}{t c:Addr}{vs:Array Value}(x:h.IsTuple t vs)(hs:CU c h h')(n:t≠c):h'.IsTuple t vs:=x.extBut hs.extBut n
theorem QO{z i j t1 t2:Addr}{k1 k2:Nat}{xs ys:Array Value}{x y p q:Value}{Q:Value→Shared→Prop}(D:ZA z a b i j)(n1:t1≠z∧t1≠b∧t1≠i∧t1≠j)(n2:t2≠z∧t2≠b∧t2≠i∧t2≠j)
 (hz:IsZip s.heap z a b .none) (ha:IsPair s.heap a (.ref i) (.ref j)) (hb:IsPair s.heap b p q) (h1:s.heap.IsTupleIter i t1 k1) (h2:s.heap.IsTupleIter j t2 k2) (g1:s.heap.IsTuple t1 xs) (g2:s.heap.IsTuple t2 ys) (hx:xs[k1]?=some x) (hy:ys[k2]?=some y)
 (fin:∀g,IsZip g z a b (rawInt s.heap.objs.size)→IsPair g b x y→g.IsTupleIter i t1 (k1+1)→g.IsTupleIter j t2 (k2+1)→IsPair g s.heap.objs.size x y→
  (∀c o,c≠z→c≠b→c≠i→c≠j→s.heap.get? c=some o→g.get? c=some o)→Q (.ref s.heap.objs.size) {s with heap:=g}):
 wpAny (model prog w) A (Builtin.«zip.__next__» ⟨[.ref z],[]⟩) (λr s'=>∃v,r= .done (.ret v)∧Q v s') E s:=by
 show wpAny _ _ (field (.ref z) 2>>=_) _ _ _;refine Aa (AG hz rfl (x:= .bool false) rfl ?_);show wpAny _ _ (field (.ref z) 3>>=_) _ _ _;refine Aa (AG hz rfl (x:= .ref a) rfl ?_);refine Aa (Bb ha rfl ?_);show wpAny _ _ (Bc (.ref z)>>=_) _ _ _;refine Aa ?_;unfold Bc;refine Aa (AG hz rfl (x:= .none) rfl (Af ?_));simp only[if_true];refine Aa (CS ?_);refine Aa (AG hz rfl (x:= .ref b) rfl ?_);refine Aa (Bu hz (by simp) λw1 z1 m1=>?_)
 replace z1:IsZip w1 z a b .ellipsis:=z1
 refine Aa ?_;simp only[List.zipIdx_cons,List.zipIdx_nil,Dk,D0];refine Aa (Aa (CH ?_));show wpAny _ _ (AF (.ref i)>>=_) _ _ _;refine Aa (LJ (h1.extBut m1.extBut D.iz) (HI g1 m1 n1.1) hx λw2 i2 m2=>Af ?_);have b2:IsPair w2 b p q:=m2.extBut _ _ D.bi (m1.extBut _ _ D.bz hb);refine Aa (Bb b2 rfl ?_);refine Aa (Cy b2 λw3 b3 m3=>?_)
 replace b3:IsPair w3 b x q:=b3
 refine Aa (Dq (Af ?_));refine Aa (Aa (CH ?_));show wpAny _ _ (AF (.ref j)>>=_) _ _ _;refine Aa (LJ (((h2.extBut m1.extBut D.jz).extBut m2.extBut D.ij.symm).extBut m3.extBut D.bj.symm) (HI (HI (HI g2 m1 n2.1) m2 n2.2.2.1) m3 n2.2.1) hy λw4 j4 m4=>Af ?_);have b4:IsPair w4 b x q:=m4.extBut _ _ D.bj b3;refine Aa (Bb b4 rfl ?_);refine Aa (Cy b4 λw5 b5 m5=>?_)
 replace b5:IsPair w5 b x y:=b5
 refine Aa (Dq (Af (Af ?_)));refine Aa (Bb b5 rfl ?_);refine Aa (wpAny_newTuple ?_);have sz:w5.objs.size=s.heap.objs.size:=by rw[m5.1,m4.1,m3.1,m2.1,m1.1]
 have z5:IsZip w5 z a b .ellipsis:=m5.extBut _ _ D.bz.symm (m4.extBut _ _ D.jz.symm (m3.extBut _ _ D.bz.symm (m2.extBut _ _ D.iz.symm z1)));have k5:∀c o,c≠z→c≠b→c≠i→c≠j→s.heap.get? c=some o→w5.get? c=some o:=λc o c1 c2 c3 c4 e=> m5.extBut _ _ c2 (m4.extBut _ _ c4 (m3.extBut _ _ c2 (m2.extBut _ _ c3 (m1.extBut _ _ c1 e))));have i5:w5.IsTupleIter i t1 (k1+1):=((i2.extBut m3.extBut D.bi.symm).extBut m4.extBut D.ij).extBut m5.extBut D.bi.symm;have j5:w5.IsTupleIter j t2 (k2+1):=j4.extBut m5.extBut D.bj.symm;have zlt:z<w5.objs.size:=Aj z5;show wpAny _ _ (Ca (.ref z) (.ref w5.objs.size)>>=_) _ _ _;refine Aa ?_;unfold Ca;have z6:IsZip (w5.push {cls:= .type "tuple",data:= .seq #[x,y]}) z a b .ellipsis:=Ac _ z5;refine Aa (Bu z6 (by simp) λw7 z7 m7=>?_)
 replace z7:IsZip w7 z a b (rawInt w5.objs.size):=z7
 refine Bu z7 (by simp) λw8 z8 m8=>?_
 replace z8:IsZip w8 z a b (rawInt w5.objs.size):=z8
 have up:∀c o,c≠z→w5.get? c=some o→w8.get? c=some o:=λc o c1 e=>m8.extBut _ _ c1 (m7.extBut _ _ c1 (Ac _ e));have t8:IsPair w8 w5.objs.size x y:=m8.extBut _ _ (BB zlt) (m7.extBut _ _ (BB zlt) (An _ rfl));rw[sz] at z8 t8;refine Af ⟨_,rfl,?_⟩;show Q (.ref w5.objs.size) _;rw[sz];obtain⟨oi,ei,ri⟩:=i5;obtain⟨oj,ej,rj⟩:=j5;exact fin w8 z8 (up _ _ D.bz b5) ⟨oi,up _ oi D.iz ei,ri⟩ ⟨oj,up _ oj D.jz ej,rj⟩ t8 λc o c1 c2 c3 c4 e=>up c o c1 (k5 c o c1 c2 c3 c4 e)
theorem PN{z i j t1 t2:Addr}{k1 k2:Nat}{xs ys:Array Value}{p q:Value}{Q:Fin→Shared→Prop}(hh:A.handled=none)(D:ZA z a b i j)(n1:t1≠z∧t1≠b∧t1≠i∧t1≠j)(n2:t2≠z∧t2≠b∧t2≠i∧t2≠j)
 (hz:IsZip s.heap z a b .none) (ha:IsPair s.heap a (.ref i) (.ref j)) (hb:IsPair s.heap b p q) (h1:s.heap.IsTupleIter i t1 k1) (h2:s.heap.IsTupleIter j t2 k2) (g1:s.heap.IsTuple t1 xs) (g2:s.heap.IsTuple t2 ys) (hend:xs[k1]?=none∨ys[k2]?=none)
 (fin:∀g e,(∀c o,c≠z→c≠b→c≠i→c≠j→s.heap.get? c=some o→g.get? c=some o)→(∃o,g.get? e=some o∧o.cls= .type "StopIteration")→E (.ref e) {s with heap:=g}):
 wpAny (model prog w) A (Builtin.«zip.__next__» ⟨[.ref z],[]⟩) Q E s:=by
 show wpAny _ _ (field (.ref z) 2>>=_) _ _ _;refine Aa (AG hz rfl (x:= .bool false) rfl ?_);show wpAny _ _ (field (.ref z) 3>>=_) _ _ _;refine Aa (AG hz rfl (x:= .ref a) rfl ?_);refine Aa (Bb ha rfl ?_);show wpAny _ _ (Bc (.ref z)>>=_) _ _ _;refine Aa ?_;unfold Bc;refine Aa (AG hz rfl (x:= .none) rfl (Af ?_));simp only[if_true];refine Aa (CS ?_);refine Aa (AG hz rfl (x:= .ref b) rfl ?_);refine Aa (Bu hz (by simp) λw1 z1 m1=>?_)
 replace z1:IsZip w1 z a b .ellipsis:=z1
 refine Aa ?_;simp only[List.zipIdx_cons,List.zipIdx_nil,Dk,D0];refine Aa (Aa (CH ?_));show wpAny _ _ (AF (.ref i)>>=_) _ _ _;cases hx:xs[k1]? with
 | none=>
  refine Aa (NA hh (h1.extBut m1.extBut D.iz) (HI g1 m1 n1.1) hx λw2 e m2 he=>?_);obtain⟨oe,e1,e2⟩:=he;have z2:IsZip w2 z a b .ellipsis:=m2 _ _ D.iz.symm z1;have ez:e≠z:=λu=>by subst u;rw[z2] at e1;cases e1;simp at e2
  exact Bu z2 (by simp) λw3 _ m3=>fin w3 e (λc o c1 _ c3 _ u=>m3.extBut _ _ c1 (m2 _ _ c3 (m1.extBut _ _ c1 u))) ⟨oe,m3.extBut _ _ ez e1,e2⟩
 | some x=>
  have hy:ys[k2]?=none:=by
   rcases hend with u | u
   · rw[hx] at u;cases u
   · exact u
  refine Aa (LJ (h1.extBut m1.extBut D.iz) (HI g1 m1 n1.1) hx λw2 i2 m2=>Af ?_);have b2:IsPair w2 b p q:=m2.extBut _ _ D.bi (m1.extBut _ _ D.bz hb);refine Aa (Bb b2 rfl ?_);refine Aa (Cy b2 λw3 b3 m3=>?_);refine Aa (Dq (Af ?_));refine Aa (Aa (CH ?_));show wpAny _ _ (AF (.ref j)>>=_) _ _ _;refine Aa (NA hh (((h2.extBut m1.extBut D.jz).extBut m2.extBut D.ij.symm).extBut m3.extBut D.bj.symm) (HI (HI (HI g2 m1 n2.1) m2 n2.2.2.1) m3 n2.2.1) hy λw4 e m4 he=>?_);obtain⟨oe,e1,e2⟩:=he;have z4:IsZip w4 z a b .ellipsis:=m4 _ _ D.jz.symm (m3.extBut _ _ D.bz.symm (m2.extBut _ _ D.iz.symm z1));have ez:e≠z:=λu=>by subst u;rw[z4] at e1;cases e1;simp at e2
  exact Bu z4 (by simp) λw5 _ m5=>fin w5 e (λc o c1 c2 c3 c4 u=>m5.extBut _ _ c1 (m4 _ _ c4 (m3.extBut _ _ c2 (m2.extBut _ _ c3 (m1.extBut _ _ c1 u))))) ⟨oe,m5.extBut _ _ ez e1,e2⟩
section
variable{h':Heap}
theorem Inv.newTup{T:Addr}{x y:V}{t':Nat}(I:Inv X pins σ H s)(ch:List Addr)(hch:∀c∈ch,FC X pins H c)(keep:∀c o,c ∉ ch→s.heap.get? c=some o→h'.get? c=some o)(hT:s.heap.objs.size≤T)
 (tup:∃its:List Value,Vals [x,y] its∧IsTupP h' T its.toArray):Inv X pins σ (EO H T (.tup [x,y])) {s with heap:=h',toks:=t'}:=by
 have hn:H T=none:=I.hok.fresh hT;have neT:∀c o,s.heap.get? c=some o→c≠T:=λc o e=>Au (A0 (Aj e) hT);have off:∀c u,H c=some u→c ∉ ch:=λc u e z=>by rw[(hch c z).1] at e;cases e
 refine I.step (g':=s.gens) (d':=s.drawn) (ch:=ch) (λc hc=>⟨(hch c hc).2.2.2.1,(hch c hc).2.1,(hch c hc).2.2.2.2.1,(hch c hc).2.2.2.2.2⟩) (λc o _ _ hc e _=>keep c o hc e) (λc o _ _ hc e _=>⟨o.slots,keep c o hc e⟩)
  (λc o _ e n=>by rw[Fz (neT c o e)];exact n) (λc o hc e=>⟨o,keep c o hc e⟩) (λc xs e=>by rw[Fz (GU e hn)];exact e) (λc o u e=>by rw[Fz (GU e hn)];exact e)
  (λc ps e=>⟨#[],by rw[Fz (GU e hn),e];simp⟩) (λm hm=>?_) (λc u e=>?_) I.bare
 · obtain⟨o,es,ep,ho,r⟩:=hm;exact⟨o,es,ep,keep _ o (λz=>(hch _ z).2.1 rfl) ho,r⟩
 · by_cases hc:c=T
   · subst hc;rw[EU] at e;cases e;obtain⟨its,r,p⟩:=tup;exact⟨by show 2≤Ak;decide,its,r,p⟩
   · rw[Fz hc] at e;refine(I.hok c u e).stay (λd v hd q=>keep d v ?_ q) (λd q=>by rw[Fz (GU q hn)];exact q) λd xs q=>by rw[Fz (GU q hn)];exact q
     rcases hd with z | z
     · rw[z];exact off c u e
     · exact off d _ z
theorem Inv.turnedN{t':Nat}(I:Inv X pins σ H s)(ch:List Addr)(hch:∀c∈ch,FC X pins H c)(keep:∀c o,c ∉ ch→s.heap.get? c=some o→h'.get? c=some o):Inv X pins σ H {s with heap:=h',toks:=t'}:=by
 have off:∀c u,H c=some u→c ∉ ch:=λc u e z=>by rw[(hch c z).1] at e;cases e
 refine I.step (g':=s.gens) (d':=s.drawn) (ch:=ch) (λc hc=>⟨(hch c hc).2.2.2.1,(hch c hc).2.1,(hch c hc).2.2.2.2.1,(hch c hc).2.2.2.2.2⟩) (λc o _ _ hc e _=>keep c o hc e) (λc o _ _ hc e _=>⟨o.slots,keep c o hc e⟩)
  (λc o _ e n=>n) (λc o hc e=>⟨o,keep c o hc e⟩) (λc xs e=>e) (λc o u e=>e) (λc ps e=>⟨#[],by rw[e];simp⟩) (λm hm=>?_) (λc u e=>?_) I.bare
 · obtain⟨o,es,ep,ho,r⟩:=hm;exact⟨o,es,ep,keep _ o (λz=>(hch _ z).2.1 rfl) ho,r⟩
 · refine(I.hok c u e).stay (λd v hd q=>keep d v ?_ q) (λ_ q=>q) λ_ _ q=>q;rcases hd with z | z
   · rw[z];exact off c u e
   · exact off d _ z
theorem G1{t c:Addr}(I:Inv X pins σ H s)(h:SqT X.K H t xs)(f:FC X pins H c):t≠c:=by
 intro e;subst e;rcases h with(h | ⟨o,h⟩) | ⟨o,its,n,hk,_⟩
 · rw[f.1] at h;cases h
 · rw[f.1] at h;cases h
 · have eb:=I.ok.mod.kin t o hk;rcases f.2.2.2.1 with z | z
   · exact I.ok.noex t o eb z
   · exact absurd (A0 (Aj eb) (AV I.ok.bsz z)) (Bw _)
end
def L5(K:Ad)(t1 t2:Addr):It:=
 ⟨λk H=>∃(xs ys:List V)(x y:V),SqT K H t1 xs∧SqT K H t2 ys∧xs[k]?=some x∧ys[k]?=some y,
  λk H v H'=>∃p,v= .ref p∧H p=none∧∀(xs ys:List V)(x y:V),SqT K H t1 xs→SqT K H t2 ys→xs[k]?=some x→ys[k]?=some y→H'=EO H p (.tup [x,y]),
  λk H=>∃(xs ys:List V),SqT K H t1 xs∧SqT K H t2 ys∧(xs.length≤k∨ys.length≤k)⟩
theorem Rt{P:A_}{w:World}{K:Ad}{es:List Expr}{kk:Nat}{pos:Pos}(t1 t2 z a b i j:Addr)(D:ZA z a b i j):
 Turn P w K (.Tuple es kk pos) (L5 K t1 t2) [z,a,b,i,j] z (λk h=>IsZip h z a b .none∧IsPair h a (.ref i) (.ref j)∧(∃p q,IsPair h b p q)∧h.IsTupleIter i t1 k∧h.IsTupleIter j t2 k) where
 mem:=by simp
 obj:=λk h st c hc=>by
  obtain⟨hz,ha,⟨p,q,hb⟩,⟨oi,ei,_,di⟩,⟨oj,ej,_,dj⟩⟩:=st;simp only[Aq,A8,or_false] at hc;rcases hc with rfl | rfl | rfl | rfl | rfl
  · exact⟨_,hz,λv e=>by cases e⟩
  · exact⟨_,ha,λv e=>by cases e⟩
  · exact⟨_,hb,λv e=>by cases e⟩
  · exact⟨oi,ei,λv e=>by rw[di] at e;cases e⟩
  · exact⟨oj,ej,λv e=>by rw[dj] at e;cases e⟩
 keep:=λk h h' st kp=>by obtain⟨hz,ha,⟨p,q,hb⟩,⟨oi,ei,ri⟩,⟨oj,ej,rj⟩⟩:=st;exact⟨kp z (by simp) _ hz,kp a (by simp) _ ha,⟨p,q,kp b (by simp) _ hb⟩,⟨oi,kp i (by simp) _ ei,ri⟩,⟨oj,kp j (by simp) _ ej,rj⟩⟩
 item:=by
  intro X hP hw hK hc k pins s σ H E I hf st hg;subst hP hw hK;obtain⟨xs,ys,x,y,q1,q2,hx,hy⟩:=hg;obtain⟨hz,ha,⟨p,q,hb⟩,h1,h2⟩:=st;obtain⟨its1,r1,g1,_⟩:=I.tuple q1;obtain⟨its2,r2,g2,_⟩:=I.tuple q2;obtain⟨u1,hu1,v1⟩:=r1.get hx;obtain⟨u2,hu2,v2⟩:=r2.get hy;have fz:=hf z (by simp);have fb:=hf b (by simp);have fi:=hf i (by simp);have fj:=hf j (by simp);have hT:s.TypeIs (.ref z) "zip":=⟨_,hz,rfl⟩;unfold pyNext;refine Aa (wpAny_attempt (AT (name:=BL "__next__") hT BM (Bq BM hT Dr
   (QO D ⟨G1 I q1 fz,G1 I q1 fb,G1 I q1 fi,G1 I q1 fj⟩ ⟨G1 I q2 fz,G1 I q2 fb,G1 I q2 fi,G1 I q2 fj⟩ hz ha hb h1 h2 g1 g2 (by simpa using hu1) (by simpa using hu2) λg a1 a2 a3 a4 a5 a6=>Af ?_) (Dc _))))
  refine⟨_,rfl,wpAny_letOwnedTupleGo_zip a1 λg' z' m'=>?_⟩;have zT:z≠s.heap.objs.size:=Au (Aj hz);have up:∀c o,c≠z→g.get? c=some o→g'.get? c=some o:=λc o hc e=>m'.extBut c o hc e;have fr:H s.heap.objs.size=none:=I.hok.fresh (Ae _);have I1:Inv X pins σ (EO H s.heap.objs.size (.tup [x,y])) {s with heap:=g'}:=by
   refine I.newTup (t':=s.toks) [z,b,i,j] (λc hc=>?_) (λc o hc e=>?_) (Ae _) ⟨[u1,u2],.cons v1 (.cons v2 .nil),_,up _ _ zT.symm a5,rfl,rfl,_,rfl⟩
   · simp only[Aq,A8,or_false] at hc;rcases hc with rfl | rfl | rfl | rfl
     · exact fz
     · exact fb
     · exact fi
     · exact fj
   · simp only[Aq,A8,or_false,not_or] at hc;exact up c o hc.1 (a6 c o hc.1 hc.2.1 hc.2.2.1 hc.2.2.2 e)
  obtain⟨oi,ei,ri⟩:=a3;obtain⟨oj,ej,rj⟩:=a4;refine⟨.ref s.heap.objs.size,_,I1,rfl,⟨_,rfl,fr,λxs' ys' x' y' s1 s2 e1 e2=>?_⟩,⟨z',up _ _ D.az (a6 a _ D.az D.ab D.ai D.aj ha),⟨_,_,up _ _ D.bz a2⟩,⟨oi,up _ _ D.iz ei,ri⟩,⟨oj,up _ _ D.jz ej,rj⟩⟩,λc hc=>?_⟩
  · rw[I.tuple_inj s1 q1,hx] at e1;rw[I.tuple_inj s2 q2,hy] at e2;cases e1;cases e2;rfl
  · have fc:=hf c hc;have:c≠s.heap.objs.size:=by
     simp only[Aq,A8,or_false] at hc;obtain⟨oi',ei',_⟩:=h1;obtain⟨oj',ej',_⟩:=h2;rcases hc with rfl | rfl | rfl | rfl | rfl
     · exact zT
     · exact Au (Aj ha)
     · exact Au (Aj hb)
     · exact Au (Aj ei')
     · exact Au (Aj ej')
    rw[Fz this];exact fc.1
 done:=by
  intro X hP hw hK hc k pins s σ H E I hf st hg;subst hP hw hK;obtain⟨xs,ys,q1,q2,hend⟩:=hg;obtain⟨hz,ha,⟨p,q,hb⟩,h1,h2⟩:=st;obtain⟨its1,r1,g1,_⟩:=I.tuple q1;obtain⟨its2,r2,g2,_⟩:=I.tuple q2;have l1:=r1.length;have l2:=r2.length;have fz:=hf z (by simp);have fb:=hf b (by simp);have fi:=hf i (by simp);have fj:=hf j (by simp);have hT:s.TypeIs (.ref z) "zip":=⟨_,hz,rfl⟩;unfold pyNext;refine Aa (wpAny_attempt (AT (name:=BL "__next__") hT BM (Bq BM hT Dr
   (PN (I.ok.hd hc) D ⟨G1 I q1 fz,G1 I q1 fb,G1 I q1 fi,G1 I q1 fj⟩ ⟨G1 I q2 fz,G1 I q2 fb,G1 I q2 fi,G1 I q2 fj⟩ hz ha hb h1 h2 g1 g2 ?_ λg e kp he=>?_) (Dc _))))
  · rcases hend with u | u
    · exact .inl (by simp;omega)
    · exact .inr (by simp;omega)
  · obtain⟨o,ho,hcl⟩:=he;refine Aa (wpAny_isInstance (T:="StopIteration") (b:=true) ⟨o,ho,hcl⟩ isSubtype_stop ?_);refine Af ⟨rfl,I.turnedN (t':=s.toks) [z,b,i,j] (λc hc=>?_) (λc o hc e=>?_)⟩
    · simp only[Aq,A8,or_false] at hc;rcases hc with rfl | rfl | rfl | rfl
      · exact fz
      · exact fb
      · exact fi
      · exact fj
    · simp only[Aq,A8,or_false,not_or] at hc;exact kp c o hc.1 hc.2.1 hc.2.2.1 hc.2.2.2 e
 self:=λ_ _ _ _ _ st h=>wpAny_pyIter_zip st.1 h
abbrev IA(h:Heap)(t:Addr):Heap:=h.push {cls:= .type "tuple_iterator",data:= .fields #[.ref t,.int 0 0]}
abbrev I0(h:Heap)(t u:Addr):Heap:=(IA h t).push {cls:= .type "tuple_iterator",data:= .fields #[.ref u,.int 0 0]}
abbrev Iz(h:Heap)(t u:Addr):Heap:=(I0 h t u).push {cls:= .type "tuple",data:= .seq #[.ref h.objs.size,.ref (IA h t).objs.size]}
abbrev Jg(h:Heap)(t u:Addr):Heap:=(Iz h t u).push {cls:= .type "tuple",data:= .seq #[.none,.none]}
abbrev HX(h:Heap)(t u:Addr):Heap:=(Jg h t u).push {cls:= .type "zip",data:= .fields #[.none,.bool false,.bool false,.ref (I0 h t u).objs.size,.ref (Iz h t u).objs.size]}
theorem PQ(t u:Addr)(xs ys:Array Value):Meets (Builtin.«zip.__new__» ⟨[.type "zip",.ref t,.ref u],[]⟩) (λ_ R s=>s.heap.IsTuple t xs∧s.heap.IsTuple u ys∧
 R (.ok (.ret (.ref (Jg s.heap t u).objs.size))) {s with heap:=HX s.heap t u}):=
 .of_wp λprog w A R s h=>by
  obtain⟨hp,g,d,tk,os⟩:=s;obtain⟨g1,g2,h⟩:=h;have f0:=sub_zip;have f1:Heap.IsTuple (Shared.heap ⟨hp,g,d,tk,os⟩) t xs:=g1;have f2:Heap.IsTuple (Shared.heap ⟨hp.push {cls:= .type "tuple_iterator",data:= .fields #[.ref t,.int 0 0]},g,d,tk,os⟩) u ys:=Heap.IsTuple.push g2 _
  wp_walk using BW f1,BW f2
  exact⟨_,rfl,h⟩
theorem Qe:AA "zip"=some (.type "zip"):=by decide+kernel
def Ni(K:Ad)(ta:TA):TI:=λσ H R=>ta σ H λvs H1=>∃t u,vs=[.ref t,.ref u]∧(∃xs,SqT K H1 t xs)∧(∃ys,SqT K H1 u ys)∧R (L5 K t u) H1
theorem NE{es:List Expr}{kk:Nat}{tpos:Pos}{a b:Expr}{ta:TA}{p pos:Pos}(hg:Gl X "zip")(hm:X.mg "zip"=none)(ha:PA X [a,b] ta)
 (he:Av [a,b] X.env=(false,eval a X.env)::Av [b] X.env:=by rfl) (hpl:(backTo pos (Av [b] X.env)).any (·.1)=false:=by rfl):
 PI X (.Tuple es kk tpos) (.Call (.Name "zip" p) [a,b] [] pos) (Ni X.K ta):=by
 intro pins s σ H R I h;refine Bk (IF I hg hm Qe ?_ (by decide) (by decide));refine Bt (EY (ha pos pins s σ H _ I h) λus s1 ⟨vs,H1,I1,r1,t,u,e,⟨xs,q1⟩,⟨ys,q2⟩,q⟩=>?_) he hpl;subst e;obtain⟨u1,u2,rfl,v1,v2⟩:=N4 r1;cases v1;cases v2;obtain⟨its1,rv1,g1,_⟩:=I1.tuple q1;obtain⟨its2,rv2,g2,_⟩:=I1.tuple q2;refine callType_new PySem.F.called_zip (by decide) (PySem.F.typeCall_zip_2 _ _) (PySem.F.newCall_zip_2 _ _) (λobj=>PySem.F.args_object_init_3 obj _ _) PySem.F.entry_zip_new (PQ t u its1.toArray its2.toArray) ⟨g1,g2,?_⟩;have y1:(IA s1.heap t).objs.size=s1.heap.objs.size+1:=AW ..;have y2:(I0 s1.heap t u).objs.size=s1.heap.objs.size+2:=by rw[AW,y1]
 have y3:(Iz s1.heap t u).objs.size=s1.heap.objs.size+3:=by rw[AW,y2]
 have y4:(Jg s1.heap t u).objs.size=s1.heap.objs.size+4:=by rw[AW,y3]
 have k5:∀c o,s1.heap.get? c=some o→(HX s1.heap t u).get? c=some o:=λc o e=>Ac _ (Ac _ (Ac _ (Ac _ (Ac _ e))));have e5:(HX s1.heap t u).get? (Jg s1.heap t u).objs.size=some _:=An _ rfl;have e4:(HX s1.heap t u).get? (Iz s1.heap t u).objs.size=some _:=Ac _ (An _ rfl);have e3:(HX s1.heap t u).get? (I0 s1.heap t u).objs.size=some _:=Ac _ (Ac _ (An _ rfl));have e2:(HX s1.heap t u).get? (IA s1.heap t).objs.size=some _:=Ac _ (Ac _ (Ac _ (An _ rfl)));have e1:(HX s1.heap t u).get? s1.heap.objs.size=some _:=Ac _ (Ac _ (Ac _ (Ac _ (An _ rfl))));have I2:Inv X pins σ H1 {s1 with heap:=HX s1.heap t u}:=I1.kept (t':=s1.toks) k5
 have fp:∀c,s1.heap.objs.size≤c→FC X pins H1 c:=λc hc=>I1.fpOk hc (I1.hok.fresh hc);have D:ZA (Jg s1.heap t u).objs.size (I0 s1.heap t u).objs.size (Iz s1.heap t u).objs.size s1.heap.objs.size (IA s1.heap t).objs.size:=by
  have n4:(Iz s1.heap t u).objs.size<(Jg s1.heap t u).objs.size:=by rw[y3,y4];exact BD _
  have n3:(I0 s1.heap t u).objs.size<(Iz s1.heap t u).objs.size:=by rw[y2,y3];exact BD _
  have n2:(IA s1.heap t).objs.size<(I0 s1.heap t u).objs.size:=by rw[y1,y2];exact BD _
  have n1:s1.heap.objs.size<(IA s1.heap t).objs.size:=by rw[y1];exact BD _
  exact⟨Au (Bf n3 n4),Au n4,Au (Bf n1 (Bf n2 (Bf n3 n4))),Au (Bf n2 (Bf n3 n4)),Au n3,BB (Bf n1 n2),BB n2,
   BB (Bf n1 (Bf n2 n3)),BB (Bf n2 n3),Au n1⟩
 refine⟨⟨_,e5,rfl⟩,wpAny_pyIter_zip e5 ?_⟩;refine⟨_,_,_,_,H1,rfl,I2,Rt t u _ _ _ _ _ D,⟨e5,e3,⟨_,_,e4⟩,⟨_,e1,rfl,rfl⟩,⟨_,e2,rfl,rfl⟩⟩,λc hc=>fp c ?_,q⟩;simp only[Aq,A8,or_false] at hc;rcases hc with rfl | rfl | rfl | rfl | rfl
 · rw[y4];exact BP _ _
 · rw[y2];exact BP _ _
 · rw[y3];exact BP _ _
 · exact Ae _
 · rw[y1];exact BP _ _
section
variable{tg iter kx vx:Expr}{ifs:List Expr}{wi:TI}{js:G5}{g:TG}{tc:TT}{tk tv:TE}{N':List Str}
end
theorem Ry{t sl:Addr}{items:Array Value}{vl vu:Value}{lo hi:Option Int}{Q:Value→Shared→Prop}(ht:IsTup s.heap t items)(hs:s.heap.IsSliceOf sl vl vu .none)(pl:IsPart vl lo)(pu:IsPart vu hi)
 (h0:HT.sIx items.size 0 lo=0) (h1:HT.sIx items.size items.size hi=items.size) (h:Q (.ref t) s):wpAny (model prog w) A (getItem (.ref t) (.ref sl)) Q E s:=by
 obtain⟨os,hos,hcs,hds⟩:=id hs;have hTs:s.TypeIs (.ref sl) "slice":=⟨os,hos,hcs⟩;unfold getItem
 try with_reducible refine BR ?_
 first | refine Aa (Af ?_) | skip
 refine Aa (CK ht.typeIs (by decide) ?_);refine Aa (AT (name:=BL "__getitem__") ht.typeIs AN
  (Bq AN ht.typeIs PySem.F.entry_tuple_getitem ?_ (PySem.F.args_tuple_getitem_2 _ _)))
 show wpAny _ _ (CG (.ref t)>>=_) _ _ s;refine Aa (tupleItemsOf_ ht ?_);refine Aa (Cv hTs ?_);rw[if_pos (by decide)];refine Aa (HT.sliceApplied_gen hs pl pu ?_);have yes:((((HT.sIx items.size 0 lo:Nat):Int)==0 && (1:Int)==1 && (HT.sIx items.size items.size hi - HT.sIx items.size 0 lo)==items.size)=true):=by rw[h0,h1];simp
 show wpAny _ _ (if(((HT.sIx items.size 0 lo:Nat):Int)==0 && (1:Int)==1 && (HT.sIx items.size items.size hi - HT.sIx items.size 0 lo)==items.size)=true then _ else _) _ _ s
 rw[if_pos yes];unfold Builtin.Tuple.tupleIsExact;refine Aa (Aa (Cv ht.typeIs (Af ?_)));rw[if_pos (by decide)];exact Aa (CS (Af ⟨_,rfl,Af h⟩))
def Kb(K:Ad):V→Option Int→Option Int→Hp→VK→Prop:=λx lo hi H Q=>∃a xs,x= .ref a∧SqT K H a xs∧
 (HT.sIx xs.length 0 lo=0∧HT.sIx xs.length xs.length hi=xs.length→Q (.ref a) H)∧
 (¬(HT.sIx xs.length 0 lo=0∧HT.sIx xs.length xs.length hi=xs.length)→∀p,H p=none→Q (.ref p) (EO H p (.tup (Fk xs lo hi))))
theorem Oq:Jv X (Kb X.K):=by
 intro pins s σ H x v vl vu lo hi sl Q I rx hs pl pu h;obtain⟨a,xs,rfl,hx,q1,q2⟩:=h;by_cases hw:HT.sIx xs.length 0 lo=0∧HT.sIx xs.length xs.length hi=xs.length
 · cases rx;obtain⟨its,r,ht,hz⟩:=I.tuple hx;have hlen:its.toArray.size=xs.length:=by rw[Ag];exact r.length.symm
   refine⟨"tuple",_,AN.lookup,ht.typeIs,?_⟩;exact Ry ht hs pl pu (by rw[hlen];exact hw.1) (by rw[hlen];exact hw.2) ⟨.ref a,H,I,rfl,q1 hw⟩
 · exact PK pins s σ H (.ref a) v vl vu lo hi sl Q I rx hs pl pu ⟨a,xs,rfl,hx,hw,q2 hw⟩
theorem QK{Q:VK}(h:SqT K H a xs)(q:∀p H',Same H H'→SqT K H' p (xs.drop 1)→Q (.ref p) H'):Kb K (.ref a) (some 1) none H Q:=by
 have e0:HT.sIx xs.length 0 (some 1)=min 1 xs.length:=HT.sIx_nat _ _ 1;refine⟨a,xs,rfl,h,λhw=>?_,λhw p hp=>?_⟩
 · rw[e0] at hw;have hl:xs.length=0:=by omega
   have hx:xs=[]:=List.length_eq_zero_iff.mp hl;subst hx;exact q a H (Same.refl _) h
 · refine q p _ (EW hp _) (SqT.of ?_);rw[EU];unfold Fk;rw[e0,show HT.sIx xs.length xs.length none=xs.length from rfl];cases xs with
   | nil=>rfl
   | cons x r=>
    have e1:min 1 (x::r).length=1:=by rw[Aw];omega
    rw[e1];congr 2;rw[Aw,Nat.add_sub_cancel];exact As (by simp)
theorem Jp(K:Ad)(h:X.K=K):Jw X (Kd K):=by subst h;exact FN
theorem Og(K:Ad)(h:X.K=K){es:List Expr}{k:Nat}{t:Ix}{n:Nat}{pos:Pos}(hc:X.calm=true)(hg:Kv X es t)
 (hn:(assignEach es X.env).length=n:=by rfl) (hst:(assignEach es X.env).findIdx? (·.1)=none:=by rfl):PG X (.Tuple es k pos) (Kp K n t):=by subst h;exact JG hc hg hn hst
theorem NY{K:Ad}{t1 t2 p:Addr}{ys:List V}{g:TG}{tc:TT}{te:TE}{Q:VK}{js:G5}(h1:n≤xs.length)(h2:n≤ys.length)(h3:xs.length≤n∨ys.length≤n)(Pv:Nat→St→List V→Hp→Prop)(h0:Pv 0 (GW js σ) [] (EO H p (.lst [])))
 (hl:∀i σ zs H,i≤n→Pv i σ zs H→SqT K H t1 xs∧SqT K H t2 ys∧H p=some (.lst zs)∧zs.length<Ak)
 (hs:∀(i:Nat)x y σ zs H q(N:St→List V→Hp→Prop),xs[i]?=some x→ys[i]?=some y→H q=none→Pv i σ zs H→(∀σ' ys' H',Pv (i+1) σ' ys' H'→N σ' ys' H')→Jm p g tc te zs (.ref q) σ (EO H q (.tup [x,y])) N)
 (hd:∀σ zs H,Pv n σ zs H→Q (.ref p) H):Ij (L5 K t1 t2) p js g tc te σ H Q:=
 JF (n:=n) (J:=L5 K t1 t2) (js:=js) (σ:=σ) (H:=H) (p:=p) (Q:=Q) (g:=g) (tc:=tc) (te:=te) Pv h0 (λi σ zs H hi pv=>(hl i σ zs H hi pv).2.2)
  (λi σ zs H hi pv=>⟨xs,ys,xs[i],ys[i],(hl i σ zs H (AQ hi) pv).1,(hl i σ zs H (AQ hi) pv).2.1,by simp,by simp⟩)
  (λσ zs H pv=>⟨xs,ys,(hl _ σ zs H (Ae _) pv).1,(hl _ σ zs H (Ae _) pv).2.1,h3⟩)
  (λi v σ zs H H' N hi y pv hN=>by
   obtain⟨q,e,hq,y⟩:=y;subst e;have ex:xs[i]?=some xs[i]:=by simp
   have ey:ys[i]?=some ys[i]:=by simp
   have e2:=y xs ys _ _ (hl i σ zs H (AQ hi) pv).1 (hl i σ zs H (AQ hi) pv).2.1 ex ey;subst e2;exact hs i _ _ σ zs H q N ex ey hq pv hN) hd
section
variable{h':Heap}
end
section
variable{te:TE}{p2 p3 p4:Pos}
end
def IL(ns:List Int):Nat:=(ns.foldl step_dedup []).length
theorem R6(ns:List Int):(Ba ns.length).map (λi=>ns.getD i 0)=ns:=by
 apply List.ext_getElem
 · simp
 · intro i h1 h2;simp only[List.getElem_map,List.getElem_range];rw[AE,AB h2];rfl
section
variable{te:TE}{p2 p3 p4:Pos}
end
end L2
namespace WB
end WB
namespace L2
theorem Ta(K:Ad)(h:X.K=K):GO X (.builtin "isinstance") (λxs H Q=>∃x t c b,xs=[x,.ty c]∧TyOf K H x (.type t)∧Ce K (.type t) (.type c)=some b∧Q (.bl b) H):=by subst h;exact FD (n:="")
section
variable{Q:VK}
end
theorem nb{i:Int}(h0:0≤i)(h1:i<2^400):i.natAbs<2^1000:=by
 have:i.natAbs<2^400:=by omega
 exact A0 this (by decide)
def Kz(K:Ad):Sp:=λvs H Q _=>∃(a:Addr)(ns:List Int),vs=[.ref a]∧SqL K H a (ns.map V.int)∧ns.length≤63∧∀H',Q (.bl true) H'
theorem mn(i j:Int):(if j<i then j else i)=min i j:=by rw[Int.min_def];split<;>split<;>omega
def Np(H H':Hp):Prop:=∀a xs,H a=some (.tup xs)→H' a=some (.tup xs)
theorem Rs{p:Addr}{ys:List V}{o:HO}(h:H p=some (.lst ys)):Np H (EO H p o):=λa xs e=>by rw[Fz (P7 e h (by intro z;cases z))];exact e
theorem Hy{H0:Hp}{p:Addr}{o:HO}(s:Same H0 H)(n:H0 p=none):Same H0 (EO H p o):=λa u e=>by rw[Fz (GU e n)];exact s _ _ e
end L2
namespace WB
end WB
namespace WB
end WB
namespace L2
section
variable{te:TE}{p2 p3 p4:Pos}
end
end L2
namespace WB
end WB
namespace L2
open PySem.AutoSeq1 (wpAny_loadPart')
open PySem.MeetsSeq PySem.MeetsSeq2 PySem.MeetsSeq3 PySem.SeqRoads2
def GN(P:A_)(w:World)(A:Be)(s:Shared)(y x:Value):Prop:=∀(E:Value→Shared→Prop)(Q:Bool→Shared→Prop),Q true s→wpAny (model P w) A (eqBool y x) Q E s
theorem SN(l b:Addr)(items items2:Array Value)(n n2:Nat)(dd dd2:Option Addr)(sl sl2:Array (Option Value))(hsz:items.size=items2.size)(k:Nat):
 ∀i:Nat,items.size - i=k→∀(A:Be)(R:Result→Shared→Prop)(s:Shared),s.heap.get? l=some {cls:= .type "list",dict:=dd,data:= .seq items n,slots:=sl}→s.heap.get? b=some {cls:= .type "list",dict:=dd2,data:= .seq items2 n2,slots:=sl2}→
  (∀j(h1:j<items.size)(h2:j<items2.size),GN P w A.in1 s items[j] items2[j])→R (.ok (.ret (.bool true))) s→
  wpAny (model P w) A.in1 (Builtin.«list.__eq__.loop» ⟨[.ref l,.ref b,rawInt i,rawInt 2],[]⟩) (λfin s'=>match fin with | .done f=>R (.ok f) s' | .again c'=>c'.quiet=true∧codeAny (model P w) A c' R s') (λe s'=>R (.error e) s') s:=by
 induction k with
 | zero=>
  intro i hk A R s hl hb he h;obtain⟨hp,g,d,tk,os⟩:=s
  wp_walk using A7 hl,A7 hb
  have o1:items[((i:Nat):Int).toNat]?=none:=by simp;omega
  have o2:items2[((i:Nat):Int).toNat]?=none:=by simp;omega
  rw[o1,o2]
  wp_walk using A7 hl,A7 hb
  show R (.ok (.ret (.bool (items.size==items2.size)))) _;rw[hsz];simpa using h
 | succ k ih=>
  intro i hk A R s hl hb he h;obtain⟨hp,g,d,tk,os⟩:=s
  wp_walk using A7 hl,A7 hb
  have lt1:i<items.size:=by omega
  have lt2:i<items2.size:=by omega
  have o1:items[((i:Nat):Int).toNat]?=some items[i]:=by simp[lt1]
  have o2:items2[((i:Nat):Int).toNat]?=some items2[i]:=by simp[lt2]
  have hc:((i:Int)+1)=((i+1:Nat):Int):=by push_cast;rfl
  rw[o1,o2];refine Aa (he i lt1 lt2 _ _ ?_)
  wp_walk
  rw[hc];exact⟨Cn plain_eq_loop _,BG entry_eq_loop (by rw[Bz plain_eq_loop _];exact ih (i+1) (by omega) A R _ hl hb he h)⟩
theorem Qh(l b:Addr)(items items2:Array Value)(n n2:Nat)(dd dd2:Option Addr)(sl sl2:Array (Option Value))(hsz:items.size=items2.size)(A:Be)(R:Result→Shared→Prop)(s:Shared)
 (hl:s.heap.get? l=some {cls:= .type "list",dict:=dd,data:= .seq items n,slots:=sl}) (hb:s.heap.get? b=some {cls:= .type "list",dict:=dd2,data:= .seq items2 n2,slots:=sl2})
 (he:∀j(h1:j<items.size)(h2:j<items2.size),GN P w A.in1 s items[j] items2[j]) (h:R (.ok (.ret (.bool true))) s):
 wpAny (model P w) A.in1 (Builtin.«list.__eq__» ⟨[.ref l,.ref b],[]⟩) (λfin s'=>match fin with | .done f=>R (.ok f) s' | .again c'=>c'.quiet=true∧codeAny (model P w) A c' R s') (λe s'=>R (.error e) s') s:=by
 obtain⟨hp,g,d,tk,os⟩:=s;have f3:=Ds;have hne:¬(items.size !=items2.size)=true:=by simp[hsz]
 wp_walk using A7 hl,A7 hb
 exact⟨Cn plain_eq_loop _,BG entry_eq_loop (by rw[Bz plain_eq_loop _];exact SN l b items items2 n n2 dd dd2 sl sl2 hsz _ 0 rfl A R _ hl hb he h)⟩
theorem QG{l:Addr}{items items2:Array Value}{E:Value→Shared→Prop}{Q:Value→Shared→Prop}(hl:s.heap.IsList l items)(hb:s.heap.IsList b items2)(hsz:items.size=items2.size)(hu:A.units<cLine)
 (he:∀j(h1:j<items.size)(h2:j<items2.size),GN P w A.in1 s items[j] items2[j]) (h:Q (.bool true) s):wpAny (model P w) A (richCompare .Eq (.ref l) (.ref b)) Q E s:=by
 obtain⟨⟨c1,dd,data,sl⟩,ho,hc,n,hd⟩:=id hl;obtain⟨⟨c2,dd2,data2,sl2⟩,ho2,hc2,n2,hd2⟩:=id hb;simp only at hc hd hc2 hd2;subst hc hd hc2 hd2;refine CA (op:= .Eq) ⟨_,ho,rfl⟩ ⟨_,ho2,rfl⟩ F.slot_list_eq ?_ hu;refine wpAny_call (Cz F.slot_list_eq.plain F.entry_list_eq (F.slot_list_eq.check _ _ _ _ _ _ _ _ ⟨_,ho,rfl⟩ (F.args_list_eq_2 _ _) ?_));exact Qh l b items items2 n n2 dd dd2 sl sl2 hsz A (wants (λv s'=>v≠ .notImplemented∧Q v s') E) s ho ho2 he (show Value.bool true≠Value.notImplemented∧Q (.bool true) s from⟨(λx=>nomatch x),h⟩)
open PySem PySem.Spec PyProof.Rows PySem.Calls
section
variable{κ:Type}[DecidableEq κ]{knd:KeyKind P w κ}
end
inductive DY where
 | non
 | bl (b:Bool)
 | int (i:Int)
 | str (x:Str)
 | lst (ds:List DY)
 | tup (ds:List DY)
 | dic
 | da (d:DY)
mutual
def RepY(H:Hp):DY→V→Prop
 | .non,v=>v= .non
 | .bl b,v=>v= .bl b
 | .int i,v=>v= .int i
 | .str x,v=>v= .str x∧x.length≤900
 | .lst ds,v=>∃a xs,v= .ref a∧H a=some (.lst xs)∧ds.length≤900∧RepYs H ds xs
 | .tup ds,v=>∃a xs,v= .ref a∧H a=some (.tup xs)∧ds.length≤900∧RepYs H ds xs
 | .dic,v=>∃a,v= .ref a∧H a=some (.dK [])
 | .da d,v=>∃a u,v= .ref a∧H a=some (.dK [(.inr "a",u)])∧RepY H d u
def RepYs(H:Hp):List DY→List V→Prop
 | [],xs=>xs=[]
 | d::ds,xs=>∃x r,xs=x::r∧RepY H d x∧RepYs H ds r
end
mutual
theorem RepY.same{H':Hp}(s:Same H H'):∀(d:DY){v:V},RepY H d v→RepY H' d v
 | .non,v,h=>by rw[RepY] at*;exact h
 | .bl b,v,h=>by rw[RepY] at*;exact h
 | .int i,v,h=>by rw[RepY] at*;exact h
 | .str x,v,h=>by rw[RepY] at*;exact h
 | .lst ds,v,h=>by rw[RepY] at*;obtain⟨a,xs,e,h1,h0,h2⟩:=h;exact⟨a,xs,e,s _ _ h1,h0,RepYs.same s ds h2⟩
 | .tup ds,v,h=>by rw[RepY] at*;obtain⟨a,xs,e,h1,h0,h2⟩:=h;exact⟨a,xs,e,s _ _ h1,h0,RepYs.same s ds h2⟩
 | .dic,v,h=>by rw[RepY] at*;obtain⟨a,e,h1⟩:=h;exact⟨a,e,s _ _ h1⟩
 | .da d,v,h=>by rw[RepY] at*;obtain⟨a,u,e,h1,h2⟩:=h;exact⟨a,u,e,s _ _ h1,RepY.same s d h2⟩
theorem RepYs.same{H':Hp}(s:Same H H'):∀(ds:List DY){xs:List V},RepYs H ds xs→RepYs H' ds xs
 | [],xs,h=>by rw[RepYs] at*;exact h
 | d::ds,xs,h=>by rw[RepYs] at*;obtain⟨x,r,e,h1,h2⟩:=h;exact⟨x,r,e,RepY.same s d h1,RepYs.same s ds h2⟩
end
theorem RepYs.length:∀{ds:List DY}{xs:List V},RepYs H ds xs→xs.length=ds.length
 | [],xs,h=>by rw[RepYs] at h;rw[h];rfl
 | d::ds,xs,h=>by rw[RepYs] at h;obtain⟨x,r,rfl,_,h⟩:=h;rw[Aw,Aw,RepYs.length h]
theorem RepYs.get:∀{ds:List DY}{xs:List V}{i:Nat}{x:V},RepYs H ds xs→xs[i]?=some x→∃d,ds[i]?=some d∧RepY H d x
 | [],xs,i,x,h,e=>by rw[RepYs] at h;subst h;simp at e
 | d::ds,xs,0,x,h,e=>by rw[RepYs] at h;obtain⟨y,r,rfl,h1,h2⟩:=h;simp at e;subst e;exact⟨d,rfl,h1⟩
 | d::ds,xs,i+1,x,h,e=>by rw[RepYs] at h;obtain⟨y,r,rfl,h1,h2⟩:=h;simp at e;obtain⟨d',e1,e2⟩:=RepYs.get h2 e;exact⟨d',by simpa using e1,e2⟩
theorem RepYs.append:∀{ds es:List DY}{xs ys:List V},RepYs H ds xs→RepYs H es ys→RepYs H (ds++es) (xs++ys)
 | [],es,xs,ys,h,h'=>by rw[RepYs] at h;subst h;exact h'
 | d::ds,es,xs,ys,h,h'=>by rw[RepYs] at h;obtain⟨x,r,rfl,h1,h2⟩:=h;rw[List.cons_append,List.cons_append,RepYs];exact⟨x,r++ys,rfl,h1,RepYs.append h2 h'⟩
mutual
def GZ:DY→Nat
 | .lst ds=>Hx ds+1
 | .tup ds=>Hx ds+1
 | .da d=>GZ d+1
 | _=>0
def Hx:List DY→Nat
 | []=>0
 | d::ds=>max (GZ d) (Hx ds)
end
def Lk:DY→String
 | .non=>"NoneType"
 | .bl _=>"bool"
 | .int _=>"int"
 | .str _=>"str"
 | .lst _=>"list"
 | .tup _=>"tuple"
 | .dic=>"dict"
 | .da _=>"dict"
theorem RepY.ty{d:DY}{v:V}(h:RepY H d v):TyOf K H v (.type (Lk d)):=by
 cases d with
 | non=>rw[RepY] at h;subst h;exact .non
 | bl b=>rw[RepY] at h;subst h;exact .bl b
 | int i=>rw[RepY] at h;subst h;exact .int i
 | str x=>rw[RepY] at h;obtain⟨rfl,_⟩:=h;exact .str x
 | lst ds=>rw[RepY] at h;obtain⟨a,xs,rfl,h1,_⟩:=h;exact .lst h1
 | tup ds=>rw[RepY] at h;obtain⟨a,xs,rfl,h1,_⟩:=h;exact .tup h1
 | dic=>rw[RepY] at h;obtain⟨a,rfl,h1⟩:=h;exact .dK h1
 | da d=>rw[RepY] at h;obtain⟨a,u,rfl,h1,_⟩:=h;exact .dK h1
theorem SS:typeLookup (.type "tuple") "keys"=pure none:=by rw[typeLookup_type,builtinLookup_eq_fast];kernel_rfl
set_option maxHeartbeats 4000000 in
theorem Iu{prog:A_}{w:World}{A:Be}{E:Value→Shared→Prop}{a:Addr}{its:Array Value}{n:Nat}{sl:Array (Option Value)}{h:Heap}{g d t os}{Q:Option Value→Shared→Prop}
 (hh:A.handled=none) (hx:h.get? a=some {cls:= .type "tuple",dict:=none,data:= .seq its n,slots:=sl})
 (q:∀h' tk,(∀b o,h.get? b=some o→h'.get? b=some o)→Q none ⟨h',g,d,tk,os⟩):wpAny (model prog w) A (getAttr? (.ref a) "keys") Q E ⟨h,g,d,t,os⟩:=by
 have y0:∀tk',(⟨h,g,d,tk',os⟩:Shared).TypeIs (.ref a) "tuple":=λ_=>⟨_,hx,rfl⟩;have y1:=sub_AttributeError;have y2:=F.slot_tuple_getattribute.lookup;have y3:=F.slot_tuple_getattribute.bind (.ref a);have y4:=am_tuple_getattr_none;unfold getAttr? getAttrBy? getAttrBy
 repeat (any_goals (first
  | assumption
  | exact y0 _
  | ((with_reducible show wpAny _ _ (call (Value.builtin "tuple.__getattribute__") _ _) _ _ _)
     refine call_meets F.slot_tuple_getattribute (y0 _) am_entry_tuple_getattribute (F.args_tuple_getattribute_2 _ _) (meets_getattribute_miss_tuple a its n sl "keys" _ SS (by decide+kernel)) ⟨hx,hh,λh' tk' e hx'=>?_⟩)
  | wp_step))
 obtain⟨t',u',he⟩:=hx'.there;show wpAny _ _ (getattributeRaised _ _ _ _ _ _ _) _ _ _;unfold getattributeRaised
 repeat (any_goals (first | assumption | wp_step))
 exact q _ _ hx'.keeps
def Gq:V→Bool
 | .non=>true
 | .int _=>true
 | _=>false
def Ly:V→V→Bool
 | .int i,.int j=>decide (i≤j)
 | _,_=>true
def G3(H:Hp):V→Bool
 | .ref a=>match H a with
  | some (.tup [x,y])=>Gq x && Gq y && Ly x y
  | _=>false
 | _=>false
def Jt:Option Int→Option Int→Bool
 | some i,some j=>decide (i≤j)
 | _,_=>true
def Ot(K:Ad):Sp:=λvs H Q _=>∃(v:V)(t:String),vs=[v]∧TyOf K H v (.type t)∧Q (.bl (t=="int")) H
def Nv(K:Ad):Sp:=λvs H Q _=>∃(v:V)(t:String),vs=[v]∧TyOf K H v (.type t)∧Q (.bl (Gq v)) H
def NQ(K:Ad)(H:Hp)(v:V):Prop:=∀a x y,v= .ref a→H a=some (.tup [x,y])→∃t1 t2,TyOf K H x (.type t1)∧TyOf K H y (.type t2)
def O6(K:Ad):Sp:=λvs H Q _=>∃(v:V)(t:String),vs=[v]∧TyOf K H v (.type t)∧NQ K H v∧Q (.bl (G3 H v)) H
def Ks:Option Int→Option Int→Bool
 | some l,some h=>decide (h<l)
 | _,_=>false
theorem Gh{j:Int}(h0:0≤j)(h1:j≤1000):N9 10 j:=⟨h0,h1,by decide⟩
def dE:Option Int→PD
 | none=> .non
 | some i=> .int i
def dM(lo hi:Option Int):PD:=if Ks lo hi=true then .non else .tup [dE lo,dE hi]
def FR(c:Nat):Bool:=decide (97≤c) && decide (c≤122)
structure FieldOk(x:Str):Prop where
 one:1≤x.length
 eight:x.length≤8
 all:∀c∈x.cps.toList,FR c=true
theorem Py:("a":Str).cps.toList=[97]:=by decide+kernel
theorem Pz:("z":Str).cps.toList=[122]:=by decide+kernel
def GB(f g:Str):Prop:=f.cps.toList<g.cps.toList
abbrev WP:=Str×Option Int×Option Int
abbrev PP:=Str×Int
theorem Ou:∀{ts:List Str}{us:List Value},Vals (ts.map V.str) us→∃l:List (Str×Tok),strValues l=us∧l.map (·.1)=ts
 | [],_,h=>by cases h;exact⟨[],rfl,rfl⟩
 | x::ts,_,h=>by
  rw[AH] at h;cases h with
  | cons r h=> obtain⟨t,rfl⟩:=r;obtain⟨l,h1,h2⟩:=Ou h;exact⟨(x,t)::l,by rw[←h1];rfl,by rw[←h2];rfl⟩
theorem OU:∀{ts:List Str}{us:List Value},Vals (ts.map V.str) us→StrsAre us ts
 | [],_,h=>by cases h;exact .nil
 | x::ts,_,h=>by
  rw[AH] at h;cases h with
  | cons r h=> obtain⟨t,rfl⟩:=r;exact .cons _ _ (OU h)
theorem Ph:∀{us:List Value}{ts:List Str},StrsAre us ts→Vals (ts.map V.str) us
 | _,_,.nil=> .nil
 | _,_,.cons n t h=> .cons ⟨t,rfl⟩ (Ph h)
def Qx(K:Ad):V→List V→Hp→VK→Prop:=λx vs H Q=>∃(y:Str)(a:Addr)(ts:List Str),x= .str y∧vs=[.ref a]∧SqL K H a (ts.map V.str)∧JoinOk y ts=true∧Q (.str (Txt.join y ts)) H
theorem QT:Nr X "str.join" (Qx X.K):=by intro pins s σ H x vs v us Q I rx rv h;obtain⟨y,a,ts,rfl,rfl,hq,hok,q⟩:=h;obtain⟨t,rfl⟩:=rx;obtain⟨u,rfl,ru⟩:=rv.one;cases ru;obtain⟨its,r,ht,hz⟩:=I.list hq;obtain⟨l,rfl,rfl⟩:=Ou r;unfold JoinOk at hok;rw[CM] at hok;refine call_meets F.slot_str_join (typeIs_str _ _ _) F.entry_str_join (F.args_str_join_2 _ _) (meets_str_join_list y t a l hok) ⟨ht.isList,post_join l ⟨joinFit_length hok,λt' k=>?_⟩⟩;exact⟨.str _,H,I.kept (t':=k) λb o e=>e,⟨t',rfl⟩,q⟩
def PF(K:Ad):List V→Hp→VK→Prop:=λxs H Q=>∃(a:Addr)(ns:List Str),xs=[.ref a]∧SqL K H a (ns.map V.str)∧ns.length<64∧
 ∀(p:Addr)(ms:List Str),ms.Perm ns→sortedS ms=true→H p=none→Q (.ref p) (EO H p (.lst (ms.map V.str)))
theorem Tb:GO X (.builtin "sorted") (PF X.K):=by
 intro pins s σ H xs us Q I r h;obtain⟨a,ns,rfl,hq,h64,q⟩:=h;obtain⟨u,rfl,rx⟩:=Hq r;cases rx;obtain⟨its,rv,ht,hz⟩:=I.list hq;have hl:=rv.length;rw[Ab] at hl;refine sorted_strs ht.isList (OU rv) (by omega) λout ns' a1 a2 a3=>?_;obtain⟨e,he⟩:=sortedAll_at s.heap its out;have hn:H (s.heap.objs.size+1)=none:=I.hok.fresh (Nat.le_succ _);have hlen:ns'.length=ns.length:=a2.length_eq;refine⟨.ref (s.heap.objs.size+1),EO H (s.heap.objs.size+1) (.lst (ns'.map V.str)),I.laid (t':=s.toks) (λb o e=>sortedAll_old e) (Nat.le_succ _) ?_,rfl,q _ ns' a2 a3 hn⟩;have hz':ns.length≤Ak:=by rw[Ab] at hz;exact hz
 exact⟨by rw[Ab];omega,out.toList,e,Ph a1,by simpa [seqObj] using he⟩
def FY(w:World):Bool:=w.params.followText "set-order"
section
variable{R:Result→Shared→Prop}{I:Addr}{fp wr:List Addr}{G:Array GenState→Array GenState→Prop}{P:Nat→Value→Prop}{St:Nat→Shared→Prop}
end
theorem SK(a:Value){Q₁:Value→Shared→Prop}
 (h:Q₁ (.ref s.heap.objs.size) {s with heap:=s.heap.push {cls:= .type "set",dict:=none,data:= .set #[] 0 (.fresh 0 0 (!FY w))}}):
 codeAny (model prog w) A (.call (.builtin "set.__new__") ⟨[.type "set",a],[]⟩) (wants Q₁ E) s:=by
 refine codeAny_of_tree ?_;show wpAny _ A.in1 (do checkBuiltinCall "set.__new__" ⟨[.type "set",a],[]⟩;again (.builtin "set.__new__" ⟨[.type "set",a],[]⟩)) _ _ s
 refine Aa (wpAny_of_eq (PySem.F.newCall_set_1 a) (Af ⟨Cn D1 _,BG PySem.F.entry_set_new ?_⟩));rw[Bz D1 _];unfold Builtin.«set.__new__» Builtin.Frozenset.newClass;have hsub:=sub_set_self;obtain⟨hp,g,d,tk,os⟩:=s;dsimp only
 wp_walk
 refine wpAny_askSetting (Af ?_);dsimp only;simp only[newObj];refine Aa (wpAny_alloc (Af ?_));exact Af h
namespace FS
end FS
namespace FS
end FS
section
variable{te:TE}{p2 p3 p4:Pos}
end
theorem QM{y:Str}(h:x.cps.toList=y.cps.toList):x=y:=by obtain⟨a⟩:=x;obtain⟨b⟩:=y;congr;exact Array.toList_inj.mp h
theorem QS{y:Str}(h:¬GB x y)(n:x≠y):GB y x:=by
 unfold GB at*;rcases Std.lt_trichotomy (α:=List Nat) x.cps.toList y.cps.toList with h1 | h1 | h1
 · exact absurd h1 h
 · exact absurd (QM h1) n
 · exact h1
theorem Rc{y z:Str}(h:GB x y)(h2:GB y z):GB x z:=List.lt_trans h h2
theorem OM:∀(r:List Str)(p:Str),risingS p r=true→(p::r).Nodup→(p::r).Pairwise GB
 | [],p,_,_=>Dd _ _
 | x::r,p,h,n=>by
  unfold risingS at h;rw[Ah,CM,ltCps_eq,decide_eq_false_iff_not] at h;rw[List.nodup_cons] at n;have px:GB p x:=QS (x:=x) (y:=p) h.1 (λe=>n.1 (by rw[←e];exact A6));have ih:=OM r x h.2 n.2;rw[Cb];refine⟨λy hy=>?_,ih⟩;rcases Aq.mp hy with rfl | hy
  · exact px
  · exact Rc px ((List.pairwise_cons.mp ih).1 y hy)
theorem RX{ms:List Str}(h:sortedS ms=true)(n:ms.Nodup):ms.Pairwise GB:=by
 cases ms with
 | nil=>exact .nil
 | cons x r=>exact OM r x h n
theorem az:("abcdefghijklmnopqrstuvwxyz":Str).cps.toList=(Ba 26).map (· +97):=by decide+kernel
theorem Pw{r:Int}(h0:0≤r)(h1:r<26):∃c,F_ ("abcdefghijklmnopqrstuvwxyz":Str).cps.toList r=some c∧FR c=true:=by
 rw[az];obtain⟨k,rfl⟩:∃k:Nat,r=k:=⟨r.toNat,by omega⟩;have hk:k<26:=by omega
 refine⟨k+97,?_,?_⟩
 · refine Ib ?_;rw[A5,List.getElem?_range hk];rfl
 · unfold FR;rw[Ah];exact⟨decide_eq_true (by omega),decide_eq_true (by omega)⟩
theorem Pc:∀(cs:List Nat),(Txt.join ("":Str) (cs.map λc=>(⟨#[c]⟩:Str))).cps.toList=cs
 | []=>rfl
 | [c]=>rfl
 | c::d::r=>by
  have ih:=Pc (d::r);have e:∀(ts:List Str),Txt.join ("":Str) ts=Str.join ("":Str) ts:=λts=>StrLaws.glued_eq_join _ _;rw[e] at ih ⊢;show((⟨#[c]⟩:Str)++("":Str)++Str.join ("":Str) ((d::r).map λc=>(⟨#[c]⟩:Str))).cps.toList=_;have:((⟨#[c]⟩:Str)++("":Str)++Str.join ("":Str) ((d::r).map λc=>(⟨#[c]⟩:Str))).cps.toList=c::(Str.join ("":Str) ((d::r).map λc=>(⟨#[c]⟩:Str))).cps.toList:=by show(#[c]++#[]++_:Array Nat).toList=_;simp
  rw[this,ih]
theorem QP(cs:List Nat)(h:cs.length≤1000):JoinOk ("":Str) (cs.map λc=>(⟨#[c]⟩:Str))=true:=by
 unfold JoinOk;rw[CM];refine StrLaws.joinFits (B:=1) (λy hy=>?_) ?_
 · obtain⟨c,_,rfl⟩:=AY.mp hy;exact Ae 1
 · rw[Ab];show cs.length*1+cs.length*0≤_;omega
theorem SameB.off{g p:Addr}{H':Hp}{o:HO}(s:SameB b g H H')(hp:H p=none):SameB b g H (EO H' p o):=λa x h n1 n2=>by
 have:a≠p:=λe=>by rw[e,hp] at h;cases h
 rw[Fz this];exact s a x h n1 n2
theorem SameB.none{g p:Addr}{H':Hp}(s:SameB b g H H')(hp:H' p=none)(pb:p≠b)(pg:p≠g):H p=none:=by
 cases e:H p with
 | none=>rfl
 | some o=>rw[s p o e pb pg] at hp;cases hp
namespace FS
end FS
section
variable{κ:Type}[DecidableEq κ]{knd:PySem.KeyKind prog w κ}
end
def HU(b g:Addr)(H:Hp):Hp:=λa=>if a=b∨a=g then none else H a
theorem NW(b g:Addr)(H:Hp):Same (HU b g H) H:=λa o h=>by
 unfold HU at h
 split at h
 · cases h
 · exact h
theorem QB{g:Addr}{H':Hp}(s:SameB b g H H'):Same (HU b g H) (HU b g H'):=λa o h=>by
 unfold HU at h ⊢
 split at h
 · cases h
 · rename_i n;rw[if_neg n];exact s a o h (λz=>n (.inl z)) (λz=>n (.inr z))
theorem NV{g:Addr}{o:HO}(h:H a=some o)(n1:a≠b)(n2:a≠g):HU b g H a=some o:=by unfold HU;rw[if_neg (λz=>z.elim n1 n2)];exact h
def nw(H H':Hp):Hp:=λa=>match H a with | none=>H' a | some _=>none
theorem Ie{H':Hp}{o:HO}(h:nw H H' a=some o):H a=none∧H' a=some o:=by
 unfold nw at h;cases e:H a with
 | none=>rw[e] at h;exact⟨rfl,h⟩
 | some x=>rw[e] at h;cases h
theorem JA{H':Hp}{o:HO}(h:H a=none)(h':H' a=some o):nw H H' a=some o:=by unfold nw;rw[h];exact h'
theorem QU{H0 H':Hp}(t:∀a,H a=none→H0 a=none):Same (nw H H') (nw H0 H'):=λa o h=>JA (t a (Ie h).1) (Ie h).2
theorem R8{H1 H2:Hp}(s:∀a o,H a=none→H1 a=some o→H2 a=some o):Same (nw H H1) (nw H H2):=λa o h=>JA (Ie h).1 (s a o (Ie h).1 (Ie h).2)
theorem LC{H':Hp}{g:Addr}(hb:H b≠none)(hg:H g≠none):Same (nw H H') (HU b g H'):=λa o h=> NV (Ie h).2 (λz=>hb (z ▸ (Ie h).1)) (λz=>hg (z ▸ (Ie h).1))
theorem LI{H1 H2:Hp}(s:Same H1 H2):Same (nw H H1) (nw H H2):=R8 λa o _ h=>s a o h
theorem Same.back{H':Hp}(s:Same H H'):∀a,H' a=Option.none→H a=Option.none:=λa h=>s.free h
def LF(D:Nat)(sp:Nat→Sp):Sp:=λvs H Q E=>∃n,n≤D∧sp n vs H Q E
section
variable{mg:Str→Option Value}{base:Heap}
def Qz:Sp:=λ_ _ _ _=>False
theorem NG{st:Stmt}{f:Addr}{fd:AJ}{N ps:List Str}(F:Fun K x x st f fd)(S:FnScope N ps (Fa st))(b:Binds K fd ps [])(M:mg x=some (.ref f))(L:Nat)(sp:Nat→Sp)
 (step:∀n sp0,(∀m,n=m+1→sp0=sp m)→Fn P w K mg base (L+1+n) x ps sp0→FnOk P w K mg base Fe (L+1+n+1) f fd ps (sp n)):∀n,FnOk P w K mg base Fe (L+1+n+1) f fd ps (sp n)
 | 0=>step 0 Qz (λm z=>by cases z) ⟨f,fd,F.ok (k:=L) S (λ_ _ _ _ h=>h.elim) (λ_ _ _ _ _ _ _ _ _ h=>h.elim),b,F.kp,M⟩
 | n+1=>step (n+1) (sp n) (λm z=>by cases z;rfl) ⟨f,fd,NG F S b M L sp step n,b,F.kp,M⟩
theorem QN{f:Addr}{fd:AJ}{ps:List Str}{L D:Nat}{sp:Nat→Sp}(h:∀n,FnOk P w K mg base Fe (L+1+n+1) f fd ps (sp n)):FnOk P w K mg base Fe (L+D+2) f fd ps (LF D sp):=
 ⟨λvs H Q E ⟨n,_,q⟩=>(h n).len vs H Q E q,λA outer s H args us vs Q E hr he hb hv ⟨n,hn,q⟩=>(h n).run A outer s H args us vs Q E (hr.mono (by omega)) he hb hv q⟩
end
def eD:Option Int→DY
 | none=> .non
 | some i=> .int i
theorem Ow(H:Hp)(o:Option Int):RepY H (eD o) (eV o):=by
 cases o with
 | none=>show RepY H .non .non;rw[RepY]
 | some i=>show RepY H (.int i) (.int i);rw[RepY]
theorem OF(o:Option Int):GZ (eD o)=0:=by cases o<;>rfl
theorem RepYs.nil:RepYs H [] []:=by rw[RepYs]
theorem RepYs.cons{d:DY}{ds:List DY}{x:V}(h:RepY H d x)(hs:RepYs H ds xs):RepYs H (d::ds) (x::xs):=by rw[RepYs];exact⟨x,xs,rfl,h,hs⟩
theorem Ox{ds:List DY}(h:H a=some (.lst xs))(hs:RepYs H ds xs)(hl:xs.length≤900):RepY H (.lst ds) (.ref a):=by rw[RepY];exact⟨a,xs,rfl,h,by rw[←hs.length];exact hl,hs⟩
theorem GR{ds:List DY}(h:H a=some (.tup xs))(hs:RepYs H ds xs)(hl:xs.length≤900):RepY H (.tup ds) (.ref a):=by rw[RepY];exact⟨a,xs,rfl,h,by rw[←hs.length];exact hl,hs⟩
open PySem.AutoSeq1 (wpAny_loadPart')
open PySem.MeetsSeq PySem.MeetsSeq2 PySem.MeetsSeq3 PySem.SeqRoads2 PySem.Calls
theorem Sr(l b:Addr)(items items2:Array Value)(n n2:Nat)(dd dd2:Option Addr)(sl sl2:Array (Option Value))(hsz:items.size=items2.size)(k:Nat):
 ∀i:Nat,items.size - i=k→∀(A:Be)(R:Result→Shared→Prop)(s:Shared),s.heap.get? l=some {cls:= .type "list",dict:=dd,data:= .seq items n,slots:=sl}→s.heap.get? b=some {cls:= .type "list",dict:=dd2,data:= .seq items2 n2,slots:=sl2}→
  (∀j(h1:j<items.size)(h2:j<items2.size),GN P w A.in1 s items[j] items2[j])→R (.ok (.ret (.bool false))) s→
  wpAny (model P w) A.in1 (Builtin.«list.__eq__.loop» ⟨[.ref l,.ref b,rawInt i,rawInt 3],[]⟩) (λfin s'=>match fin with | .done f=>R (.ok f) s' | .again c'=>c'.quiet=true∧codeAny (model P w) A c' R s') (λe s'=>R (.error e) s') s:=by
 induction k with
 | zero=>
  intro i hk A R s hl hb he h;obtain⟨hp,g,d,tk,os⟩:=s
  wp_walk using A7 hl,A7 hb
  have o1:items[((i:Nat):Int).toNat]?=none:=by simp;omega
  have o2:items2[((i:Nat):Int).toNat]?=none:=by simp;omega
  rw[o1,o2]
  wp_walk using A7 hl,A7 hb
  show R (.ok (.ret (.bool (items.size !=items2.size)))) _;rw[hsz];simpa using h
 | succ k ih=>
  intro i hk A R s hl hb he h;obtain⟨hp,g,d,tk,os⟩:=s
  wp_walk using A7 hl,A7 hb
  have lt1:i<items.size:=by omega
  have lt2:i<items2.size:=by omega
  have o1:items[((i:Nat):Int).toNat]?=some items[i]:=by simp[lt1]
  have o2:items2[((i:Nat):Int).toNat]?=some items2[i]:=by simp[lt2]
  have hc:((i:Int)+1)=((i+1:Nat):Int):=by push_cast;rfl
  rw[o1,o2];refine Aa (he i lt1 lt2 _ _ ?_)
  wp_walk
  rw[hc];exact⟨Cn plain_eq_loop _,BG entry_eq_loop (by rw[Bz plain_eq_loop _];exact ih (i+1) (by omega) A R _ hl hb he h)⟩
theorem Qn(l b:Addr)(items items2:Array Value)(n n2:Nat)(dd dd2:Option Addr)(sl sl2:Array (Option Value))(hsz:items.size=items2.size)(A:Be)(R:Result→Shared→Prop)(s:Shared)
 (hl:s.heap.get? l=some {cls:= .type "list",dict:=dd,data:= .seq items n,slots:=sl}) (hb:s.heap.get? b=some {cls:= .type "list",dict:=dd2,data:= .seq items2 n2,slots:=sl2})
 (he:∀j(h1:j<items.size)(h2:j<items2.size),GN P w A.in1 s items[j] items2[j]) (h:R (.ok (.ret (.bool false))) s):
 wpAny (model P w) A.in1 (Builtin.«list.__ne__» ⟨[.ref l,.ref b],[]⟩) (λfin s'=>match fin with | .done f=>R (.ok f) s' | .again c'=>c'.quiet=true∧codeAny (model P w) A c' R s') (λe s'=>R (.error e) s') s:=by
 obtain⟨hp,g,d,tk,os⟩:=s;have f3:=Ds;have hne:¬(items.size !=items2.size)=true:=by simp[hsz]
 wp_walk using A7 hl,A7 hb
 exact⟨Cn plain_eq_loop _,BG entry_eq_loop (by rw[Bz plain_eq_loop _];exact Sr l b items items2 n n2 dd dd2 sl sl2 hsz _ 0 rfl A R _ hl hb he h)⟩
theorem QJ{l:Addr}{items items2:Array Value}{E:Value→Shared→Prop}{Q:Value→Shared→Prop}(hl:s.heap.IsList l items)(hb:s.heap.IsList b items2)(hsz:items.size=items2.size)(hu:A.units<cLine)
 (he:∀j(h1:j<items.size)(h2:j<items2.size),GN P w A.in1 s items[j] items2[j]) (h:Q (.bool false) s):wpAny (model P w) A (richCompare .NotEq (.ref l) (.ref b)) Q E s:=by
 obtain⟨⟨c1,dd,data,sl⟩,ho,hc,n,hd⟩:=id hl;obtain⟨⟨c2,dd2,data2,sl2⟩,ho2,hc2,n2,hd2⟩:=id hb;simp only at hc hd hc2 hd2;subst hc hd hc2 hd2;refine CA (op:= .NotEq) ⟨_,ho,rfl⟩ ⟨_,ho2,rfl⟩ F.slot_list_ne ?_ hu;refine wpAny_call (Cz F.slot_list_ne.plain F.entry_list_ne (F.slot_list_ne.check _ _ _ _ _ _ _ _ ⟨_,ho,rfl⟩ (F.args_list_ne_2 _ _) ?_));exact Qn l b items items2 n n2 dd dd2 sl sl2 hsz A (wants (λv s'=>v≠ .notImplemented∧Q v s') E) s ho ho2 he (show Value.bool false≠Value.notImplemented∧Q (.bool false) s from⟨(λx=>nomatch x),h⟩)
section
variable{κ:Type}[DecidableEq κ]{knd:KeyKind P w κ}
end
def N5:DY→Bool
 | .tup _=>true
 | _=>false
def K0:DY→Bool
 | .str _=>true
 | _=>false
def HG:DY→Bool
 | .int _=>true
 | _=>false
def Fu:DY→Bool
 | .non=>true
 | .int _=>true
 | _=>false
def HR:DY→DY→Bool
 | .int i,.int j=>decide (i≤j)
 | _,_=>true
def Jj:DY→Bool
 | .tup [x,y]=>Fu x && Fu y && HR x y
 | _=>false
def FT(x:Str):Bool:=decide (1≤x.length) && decide (x.length≤8) && x.cps.toList.all FR
def FK:DY→Bool
 | .str x=>FT x
 | _=>false
def Gg:DY→Bool
 | .tup [f,lo,hi]=>FK f && Jj (.tup [lo,hi])
 | _=>false
def Gs:DY→Bool
 | .tup [f,n]=>FK f && HG n
 | _=>false
def Gy:DY→Option Str
 | .tup (.str x::_)=>some x
 | _=>none
def E_:List DY→Bool
 | d::e::r=>(match Gy d,Gy e with | some x,some y=>decide (x.cps.toList<y.cps.toList) | _,_=>false) && E_ (e::r)
 | _=>true
def GF:DY→Bool
 | .tup ds=>ds.all Gg && E_ ds
 | _=>false
def G0:DY→Bool
 | .tup ds=>ds.all Gs && E_ ds
 | _=>false
def F5(f:DY→Bool):Sp:=λvs H Q _=>∃(v:V)(d:DY),vs=[v]∧RepY H d v∧∀H',Same H H'→Q (.bl (f d)) H'
def LQ(P:List DY→Prop)(f:List DY→Bool):Sp:=λvs H Q _=>∃(v:V)(ds:List DY),vs=[v]∧RepY H (.tup ds) v∧P ds∧∀H',Same H H'→Q (.bl (f ds)) H'
theorem OJ(d:DY):(Lk d=="int")=HG d:=by cases d<;>rfl
theorem NU{d:DY}{v:V}(h:RepY H d v):Gq v=Fu d:=by
 cases d with
 | non=>rw[RepY] at h;subst h;rfl
 | bl b=>rw[RepY] at h;subst h;rfl
 | int i=>rw[RepY] at h;subst h;rfl
 | str x=>rw[RepY] at h;obtain⟨rfl,_⟩:=h;rfl
 | lst ds=>rw[RepY] at h;obtain⟨a,xs,rfl,_⟩:=h;rfl
 | tup ds=>rw[RepY] at h;obtain⟨a,xs,rfl,_⟩:=h;rfl
 | dic=>rw[RepY] at h;obtain⟨a,rfl,_⟩:=h;rfl
 | da d=>rw[RepY] at h;obtain⟨a,u,rfl,_⟩:=h;rfl
theorem P5{d e:DY}{v w:V}(h:RepY H d v)(h':RepY H e w)(hd:Fu d=true)(he:Fu e=true):Ly v w=HR d e:=by
 cases d with
 | non=>rw[RepY] at h;subst h;cases e<;>first | (rw[RepY] at h';subst h';rfl) | (cases he)
 | int i=>rw[RepY] at h;subst h;cases e<;>first | (rw[RepY] at h';subst h';rfl) | (cases he)
 | _=>cases hd
theorem RepYs.two{d e:DY}(h:RepYs H [d,e] xs):∃x y,xs=[x,y]∧RepY H d x∧RepY H e y:=by rw[RepYs] at h;obtain⟨x,r,rfl,h1,h⟩:=h;rw[RepYs] at h;obtain⟨y,r,rfl,h2,h⟩:=h;rw[RepYs] at h;subst h;exact⟨x,y,rfl,h1,h2⟩
theorem RepYs.three{d e f:DY}(h:RepYs H [d,e,f] xs):∃x y z,xs=[x,y,z]∧RepY H d x∧RepY H e y∧RepY H f z:=by rw[RepYs] at h;obtain⟨x,r,rfl,h1,h⟩:=h;obtain⟨y,z,rfl,h2,h3⟩:=h.two;exact⟨x,y,z,rfl,h1,h2,h3⟩
theorem RepYs.mk2{d e:DY}{x y:V}(h1:RepY H d x)(h2:RepY H e y):RepYs H [d,e] [x,y]:=by rw[RepYs];refine⟨x,[y],rfl,h1,?_⟩;rw[RepYs];refine⟨y,[],rfl,h2,?_⟩;rw[RepYs]
theorem RY{ds:List DY}(h:ds.length≠2):Jj (.tup ds)=false:=by
 match ds,h with
 | [],_=>rfl
 | [_],_=>rfl
 | [_,_],h=>exact absurd rfl h
 | _::_::_::_,_=>rfl
theorem QL{d:DY}{v:V}(h:RepY H d v):G3 H v=Jj d∧NQ K H v:=by
 cases d with
 | tup ds=>
  rw[RepY] at h;obtain⟨a,xs,rfl,h1,h0,h2⟩:=h;by_cases hl:ds.length=2
  · obtain⟨x,y,rfl⟩:∃x y,ds=[x,y]:=by
     match ds,hl with
     | [x,y],_=>exact⟨x,y,rfl⟩
    obtain⟨u,w,rfl,r1,r2⟩:=h2.two;refine⟨?_,?_⟩
    · unfold G3;simp only[h1];show(Gq u && Gq w && Ly u w)=(Fu x && Fu y && HR x y);rw[NU r1,NU r2];cases e1:Fu x with
      | false=>rfl
      | true=>
       cases e2:Fu y with
       | false=>rfl
       | true=>rw[P5 r1 r2 e1 e2]
    · intro a' p q e e';cases e;rw[h1] at e';injection e' with e'
      injection e' with e'
      injection e' with z1 z2
      injection z2 with z2 _
      subst z1 z2;exact⟨_,_,r1.ty,r2.ty⟩
  · have lx:=h2.length;refine⟨?_,?_⟩
    · rw[RY hl];unfold G3;simp only[h1]
      match xs,lx with
      | [],_=>rfl
      | [_],_=>rfl
      | [_,_],lx=>exact absurd lx.symm hl
      | _::_::_::_,_=>rfl
    · intro a' p q e e';cases e;rw[h1] at e';injection e' with e'
      injection e' with e'
      subst e';exact absurd lx.symm hl
 | non=>rw[RepY] at h;subst h;exact⟨rfl,λa x y e _=>by cases e⟩
 | bl b=>rw[RepY] at h;subst h;exact⟨rfl,λa x y e _=>by cases e⟩
 | int i=>rw[RepY] at h;subst h;exact⟨rfl,λa x y e _=>by cases e⟩
 | str x=>rw[RepY] at h;obtain⟨rfl,_⟩:=h;exact⟨rfl,λa x y e _=>by cases e⟩
 | lst ds=> rw[RepY] at h;obtain⟨a,xs,rfl,h1,_⟩:=h;exact⟨by unfold G3;simp only[h1];rfl,λa' x y e e'=>by cases e;rw[h1] at e';cases e'⟩
 | dic=> rw[RepY] at h;obtain⟨a,rfl,h1⟩:=h;exact⟨by unfold G3;simp only[h1];rfl,λa' x y e e'=>by cases e;rw[h1] at e';cases e'⟩
 | da d=> rw[RepY] at h;obtain⟨a,u,rfl,h1,_⟩:=h;exact⟨by unfold G3;simp only[h1];rfl,λa' x y e e'=>by cases e;rw[h1] at e';cases e'⟩
theorem P2(c:Nat):(!decide ((⟨#[c]⟩:Str).cps.toList<("a":Str).cps.toList))=decide (97≤c):=by
 rw[Py];show(!decide (([c]:List Nat)<[97]))=_;by_cases h:97≤c
 · have:¬([c]:List Nat)<[97]:=by
    intro z;cases z with
    | rel z=>exact absurd z (by omega)
    | cons z=>cases z
   rw[decide_eq_false this,decide_eq_true h];rfl
 · have:([c]:List Nat)<[97]:=List.Lex.rel (by omega);rw[decide_eq_true this,decide_eq_false h];rfl
theorem P6(c:Nat):(!decide (("z":Str).cps.toList<(⟨#[c]⟩:Str).cps.toList))=decide (c≤122):=by
 rw[Pz];show(!decide (([122]:List Nat)<[c]))=_;by_cases h:c≤122
 · have:¬([122]:List Nat)<[c]:=by
    intro z;cases z with
    | rel z=>exact absurd z (by omega)
    | cons z=>cases z
   rw[decide_eq_false this,decide_eq_true h];rfl
 · have:([122]:List Nat)<[c]:=List.Lex.rel (by omega);rw[decide_eq_true this,decide_eq_false h];rfl
theorem LS{α:Type}(f:α→Bool)(l:List α):(l.map f).all id=l.all f:=by
 induction l with
 | nil=>rfl
 | cons x l ih=>rw[AH,A9,A9,ih];rfl
theorem Ht{P:Prop}(h:false=true):P:=absurd h Ar
theorem OX{d:DY}(h:FK d=true):∃x,d= .str x∧FT x=true:=by
 cases d with
 | str x=>exact⟨x,rfl,h⟩
 | _=>exact Ht h
theorem OW{d:DY}(h:Gg d=true):∃x lo hi,d= .tup [.str x,lo,hi]∧FT x=true∧Jj (.tup [lo,hi])=true:=by
 cases d with
 | tup ds=>
  match ds,h with
  | [],h=>exact Ht h
  | [_],h=>exact Ht h
  | [_,_],h=>exact Ht h
  | [f,lo,hi],h=> obtain⟨h1,h2⟩:=(Ah _ _).mp (show(FK f && Jj (.tup [lo,hi]))=true from h);obtain⟨x,rfl,h3⟩:=OX h1;exact⟨x,lo,hi,rfl,h3,h2⟩
  | _::_::_::_::_,h=>exact Ht h
 | _=>exact Ht h
theorem RL{d:DY}(h:Gs d=true):∃x n,d= .tup [.str x,n]∧FT x=true∧HG n=true:=by
 cases d with
 | tup ds=>
  match ds,h with
  | [],h=>exact Ht h
  | [_],h=>exact Ht h
  | [f,n],h=> obtain⟨h1,h2⟩:=(Ah _ _).mp (show(FK f && HG n)=true from h);obtain⟨x,rfl,h3⟩:=OX h1;exact⟨x,n,rfl,h3,h2⟩
  | _::_::_::_,h=>exact Ht h
 | _=>exact Ht h
theorem SQ{d:DY}(h:Gg d=true):(Gy d).isSome=true:=by obtain⟨x,lo,hi,rfl,_⟩:=OW h;rfl
theorem RM{d:DY}(h:Gs d=true):(Gy d).isSome=true:=by obtain⟨x,n,rfl,_⟩:=RL h;rfl
theorem Sf{ds:List DY}(h:ds.length≠3):Gg (.tup ds)=false:=by
 match ds,h with
 | [],_=>rfl
 | [_],_=>rfl
 | [_,_],_=>rfl
 | [_,_,_],h=>exact absurd rfl h
 | _::_::_::_::_,_=>rfl
theorem So{ds:List DY}(h:ds.length≠2):Gs (.tup ds)=false:=by
 match ds,h with
 | [],_=>rfl
 | [_],_=>rfl
 | [_,_],h=>exact absurd rfl h
 | _::_::_::_,_=>rfl
theorem OH{d:DY}{v:V}(h:RepY H d v)(e:Gy d=some x):∃a r,v= .ref a∧H a=some (.tup (.str x::r)):=by
 match d,e with
 | .tup (.str y::ds),e=> rw[RepY] at h;obtain⟨a,xs,rfl,h1,_,h2⟩:=h;rw[RepYs] at h2;obtain⟨z,r,rfl,h3,_⟩:=h2;rw[RepY] at h3;obtain⟨rfl,_⟩:=h3;have e:some y=some x:=e;cases e;exact⟨a,r,rfl,h1⟩
def FA(d e:DY):Bool:=match Gy d,Gy e with
 | some x,some y=>decide (x.cps.toList<y.cps.toList)
 | _,_=>false
theorem KD{d e:DY}{y:Str}(h1:Gy d=some x)(h2:Gy e=some y):FA d e=decide (x.cps.toList<y.cps.toList):=by unfold FA;rw[h1,h2]
theorem OB:∀ds:List DY,E_ ds=((Ba (ds.length - 1)).map (λi=>FA (ds.getD i .non) (ds.getD (i+1) .non))).all id
 | []=>rfl
 | [d]=>rfl
 | d::e::r=>by
  have ih:=OB (e::r);have l1:(d::e::r).length - 1=r.length+1:=by simp
  have l2:(e::r).length - 1=r.length:=by simp
  rw[l1,BH,AH,A9,List.map_map];rw[l2] at ih;show(_ && E_ (e::r))=_;rw[ih];rfl
theorem Sm(lo hi:Option Int)(n:Nat):(AL lo hi 1 n).length≤n∧∀j,hi=some j→0≤j→((AL lo hi 1 n).length:Int)≤j:=by refine⟨indices_len_le lo hi n,λj e h0=>?_⟩;subst e;unfold AL sliceRange;cases lo<;>simp only[show(1:Int)>0 by decide,if_true,Ab,CN]<;>(split<;>(try split)<;>(try split)<;>(try simp only[Int.ediv_one])<;>omega)
def PB:V→Option Int→Option Int→Hp→VK→Prop:=λx lo hi H Q=>∃y:Str,x= .str y∧y.length≤100000∧∀z:Str,z.length≤y.length→(∀j,hi=some j→0≤j→(z.length:Int)≤j)→Q (.str z) H
theorem IK:Jv X PB:=by
 intro pins s σ H x v vl vu lo hi sl Q I rx hs pl pu h;obtain⟨y,rfl,hl,q⟩:=h;obtain⟨t,rfl⟩:=(show ∃t,v=Value.str y t from rx);obtain⟨l,el,e1⟩:∃l:Option (Int×Tok),vl=partValue l∧l.map (·.1)=lo:=by
  cases pl with
  | none=>exact⟨none,rfl,rfl⟩
  | int i t=>exact⟨some (i,t),rfl,rfl⟩
 obtain⟨u,eu,e2⟩:∃l:Option (Int×Tok),vu=partValue l∧l.map (·.1)=hi:=by
  cases pu with
  | none=>exact⟨none,rfl,rfl⟩
  | int i t=>exact⟨some (i,t),rfl,rfl⟩
 have hS:s.heap.IsSlice sl l u none:=by obtain⟨o,h1,h2,h3⟩:=hs;exact⟨o,h1,h2,by rw[h3,el,eu];rfl⟩
 have pk:slicePicked y l u none=AL lo hi 1 y.length:=by unfold slicePicked;rw[e1,e2];rfl
 obtain⟨p1,p2⟩:=Sm lo hi y.length;have hsz:(100000:Nat)≤Ak:=by decide
 refine⟨"str",_,F.slot_str_getitem.lookup,typeIs_str s y t,?_⟩;refine getItem_meets (typeIs_str s y t) (by decide) F.slot_str_getitem F.entry_str_getitem (F.args_str_getitem_2 _ _) (meets_str_getitem_slice y t sl l u none rfl) ⟨hS,?_⟩;unfold sliceMade;rw[pk]
 split
 · rename_i hc;have hc:(AL lo hi 1 y.length).length=y.length:=by simpa using hc
   exact⟨.str y,H,I,⟨t,rfl⟩,q y (Ae _) λj e h0=>by have:=p2 j e h0;omega⟩
 · have hz:(⟨((AL lo hi 1 y.length).filterMap (y.cps[·]?)).toArray⟩:Str).length≤(AL lo hi 1 y.length).length:=by
    show(List.filterMap _ _).toArray.size≤_;rw[Ag];exact List.length_filterMap_le _ _
   exact⟨by omega,⟨.str _,H,I.tok _,⟨_,rfl⟩,q _ (by omega) λj e h0=>by have:=p2 j e h0;omega⟩⟩
theorem O4:∀ts:List Str,Reps K H (ts.map PD.str) (ts.map V.str)
 | []=>by show Reps K H [] [];rw[Reps]
 | n::ns=>by show Reps K H (.str n::ns.map PD.str) (.str n::ns.map V.str);rw[Reps];exact⟨_,_,rfl,by rw[ER],O4 ns⟩
theorem OZ:∀ts:List Str,Hw (ts.map PD.str)=0
 | []=>by show Hw []=0;rw[Hw]
 | n::ns=>by
  show Hw (.str n::ns.map PD.str)=0;rw[Hw,OZ ns,Hs]
  all_goals simp
theorem Qf{p:Addr}{ts:List Str}{Q:VK}(h:SqL K H a (ts.map V.str))(hp:SqL K H p [])(q:Q (.bl ts.isEmpty) H):Kf K (.ref a) (.ref p) H Q:=by
 refine⟨.lst (ts.map PD.str),.lst [],by rw[ER];exact⟨a,_,rfl,h,O4 ts⟩,by rw[ER];exact⟨p,_,rfl,hp,by rw[Reps]⟩,by rw[Hs,OZ];decide,?_⟩;cases ts with
 | nil=>rw[Fx,show GE (([]:List Str).map PD.str) []=true from KR []];exact q
 | cons n ns=>rw[Fx,Jr (by simp)];exact q
def MU:R2:=λx y H Q=>∃a b xs,x= .ref a∧y= .ref b∧H a=some (.lst xs)∧H b=some (.lst [])∧Q (.bl xs.isEmpty) H
def MR:R2:=λx y H Q=>∃a b xs,x= .ref a∧y= .ref b∧H a=some (.lst xs)∧H b=some (.lst [])∧Q (.bl (!xs.isEmpty)) H
theorem NB(hr:Ia X):FB X (AK .Eq) MU:=by
 intro pins s σ H x y v u Q I rx ry h;obtain⟨a,b,xs,rfl,rfl,ha,hb,q⟩:=h;cases(show v=Value.ref a from rx);cases(show u=Value.ref b from ry);unfold Ia at hr;obtain⟨_,its,n,rv,hg⟩:=(show ObjOk X.prog X.w H s.heap a (.lst xs) from I.hok a _ ha);obtain⟨_,its',n',rv',hg'⟩:=(show ObjOk X.prog X.w H s.heap b (.lst []) from I.hok b _ hb);cases rv';cases xs with
 | nil=> cases rv;exact QG ⟨_,hg,rfl,_,rfl⟩ ⟨_,hg',rfl,_,rfl⟩ rfl (by omega) (λj k1 k2=>absurd k1 (by simp)) ⟨.bl true,H,I,rfl,q⟩
 | cons x xs=> have l:=rv.length;exact B_ (l:=a) (b:=b) ⟨_,hg,rfl,_,rfl⟩ ⟨_,hg',rfl,_,rfl⟩ (by simp;intro z;rw[z] at l;simp at l) (by omega) X.prog X.w _ _ ⟨.bl false,H,I,rfl,q⟩
theorem Qs(hr:Ia X):FB X (AK .NotEq) MR:=by
 intro pins s σ H x y v u Q I rx ry h;obtain⟨a,b,xs,rfl,rfl,ha,hb,q⟩:=h;cases(show v=Value.ref a from rx);cases(show u=Value.ref b from ry);unfold Ia at hr;obtain⟨_,its,n,rv,hg⟩:=(show ObjOk X.prog X.w H s.heap a (.lst xs) from I.hok a _ ha);obtain⟨_,its',n',rv',hg'⟩:=(show ObjOk X.prog X.w H s.heap b (.lst []) from I.hok b _ hb);cases rv';cases xs with
 | nil=> cases rv;exact QJ ⟨_,hg,rfl,_,rfl⟩ ⟨_,hg',rfl,_,rfl⟩ rfl (by omega) (λj k1 k2=>absurd k1 (by simp)) ⟨.bl false,H,I,rfl,q⟩
 | cons x xs=> have l:=rv.length;exact SeqAt.RcNeAt.lists_lengths (l:=a) (b:=b) ⟨_,hg,rfl,_,rfl⟩ ⟨_,hg',rfl,_,rfl⟩ (by simp;intro z;rw[z] at l;simp at l) (by omega) X.prog X.w _ _ ⟨.bl true,H,I,rfl,q⟩
mutual
def Hz:DY→Nat
 | .str x=>x.length
 | .lst ds=>max ds.length (Gp ds)
 | .tup ds=>max ds.length (Gp ds)
 | .da d=>Hz d
 | _=>0
def Gp:List DY→Nat
 | []=>0
 | d::ds=>max (Hz d) (Gp ds)
end
theorem Qb(c:Nat):(!(!(Da ("abcdefghijklmnopqrstuvwxyz":Str) (⟨#[c]⟩:Str) 0 ("abcdefghijklmnopqrstuvwxyz":Str).length 1).isEmpty))=!FR c:=by
 rw[PySem.StrLaws.found_one];congr 1;have e:("abcdefghijklmnopqrstuvwxyz":Str).cps.toList=(Ba 26).map (· +97):=by decide+kernel
 rw[e];by_cases h:FR c=true
 · rw[h];have h1:97≤c:=of_decide_eq_true ((Ah _ _).mp h).1;have h2:c≤122:=of_decide_eq_true ((Ah _ _).mp h).2;exact decide_eq_true (List.mem_map.mpr ⟨c - 97,Dv.mpr (by omega),by omega⟩)
 · rw[DA.mpr h];refine decide_eq_false λz=>h ?_;obtain⟨k,hk,rfl⟩:=AY.mp z;have:=List.mem_range.mp hk;unfold FR;rw[decide_eq_true (by omega),decide_eq_true (by omega)];rfl
theorem RepYs.take:∀{ds:List DY}{xs:List V}(k:Nat),RepYs H ds xs→RepYs H (ds.take k) (xs.take k)
 | [],xs,k,h=>by rw[RepYs] at h;subst h;simp;exact .nil
 | d::ds,xs,0,h=>by simp;exact .nil
 | d::ds,xs,k+1,h=>by rw[RepYs] at h;obtain⟨x,r,rfl,h1,h2⟩:=h;rw[D8,D8];exact .cons h1 (RepYs.take k h2)
theorem RepYs.drop:∀{ds:List DY}{xs:List V}(k:Nat),RepYs H ds xs→RepYs H (ds.drop k) (xs.drop k)
 | [],xs,k,h=>by rw[RepYs] at h;subst h;simp;exact .nil
 | d::ds,xs,0,h=>by simpa using h
 | d::ds,xs,k+1,h=>by rw[RepYs] at h;obtain⟨x,r,rfl,h1,h2⟩:=h;rw[D9,D9];exact RepYs.drop k h2
theorem RepYs.getD{ds:List DY}(h:RepYs H ds xs)(hk:k<ds.length):∃d x,ds[k]?=some d∧xs[k]?=some x∧RepY H d x:=by have hl:=h.length;obtain⟨d,e,r⟩:=h.get (show xs[k]?=some (xs[k]'(by omega)) by simp);exact⟨d,_,e,by simp,r⟩
theorem NS(xs:List V)(k:Nat):Fk xs none (some (k:Int))=xs.take k:=by
 unfold Fk;rw[show HT.sIx xs.length 0 none=0 from rfl,show HT.sIx xs.length xs.length (some (k:Int))=min k xs.length from HT.sIx_nat _ _ k,List.drop_zero,Nat.sub_zero];rcases Nat.le_total k xs.length with h | h
 · rw[Nat.min_eq_left h]
 · rw[Nat.min_eq_right h,As (Ae _),As h]
theorem NR(xs:List V)(k:Nat):Fk xs (some (k:Int)) none=xs.drop k:=by
 unfold Fk;rw[show HT.sIx xs.length xs.length none=xs.length from rfl,show HT.sIx xs.length 0 (some (k:Int))=min k xs.length from HT.sIx_nat _ _ k];rcases Nat.le_total k xs.length with h | h
 · rw[Nat.min_eq_left h];exact As (by rw[AU];exact Ae _)
 · rw[Nat.min_eq_right h,Dt h,Dt (Ae _)];simp
def hs(S:Addr→Bool)(H:Hp):Hp:=λa=>if S a=true then none else H a
def Uc(S:Addr→Bool)(H:Hp):Prop:=∀a,S a=true→H a≠none
def Lr(b g:Addr):Addr→Bool:=λa=>decide (a=b) || decide (a=g)
theorem SM{α:Type}(f:α→Bool)(g:α→Str)(l:List α):((l.filter λc=>!f c).map g).isEmpty=l.all f:=by
 induction l with
 | nil=>rfl
 | cons x l ih=>
  rw[CZ,A9];cases h:f x with
  | true=>rw[if_neg (by simp)];simpa using ih
  | false=>rw[if_pos (by simp)];rfl
theorem P_{α:Type}{l:List α}{r:Int}(h0:0≤r)(h1:r<(l.length:Int)):∃c,F_ l r=some c:=by
 obtain⟨k,rfl⟩:=Db h0;have hk:k<l.length:=by omega
 exact⟨l[k],Ib (by rw[AB hk])⟩
def Q2:Stmt→Expr
 | .Assign _ v _=>v
 | _=> .Constant .none 0 ⟨0,0,0,0⟩
def MO:Stmt→Expr→Stmt
 | .Assign t _ p,e=> .Assign t e p
 | s,_=>s
inductive Ents:List Cq→List (Str×V)→Prop where
 | nil:Ents [] []
 | cons {e:Cq} {k:Str} {t:Tok} {v:V} {r:List Cq} {rs:List (Str×V)} (hk:e.key= .str k t) (hv:RelV v e.val) (h:Ents r rs):Ents (e::r) ((k,v)::rs)
def look:List (Str×V)→Str→Option V
 | [],_=>none
 | (k,v)::r,x=>if x=k then some v else look r x
def HV(K:Ad)(w:World)(a:Addr)(kvs:List (Str×V)):Prop:=
 (a==BO)=false∧∃(es:Array Cq)(n:Nat),K.lookup a=some ⟨.type "dict",none,.dict es n,#[]⟩∧PySem.W.KeysLit w.params es.toList∧Ents es.toList kvs
theorem QW{l:List Cq}{kvs:List (Str×V)}(h:Ents l kvs)(x:Str):match look kvs x with
 | none=>(l.find? λd=>CB x d.key)=none
 | some v=>∃e,(l.find? λd=>CB x d.key)=some e∧RelV v e.val:=by
 induction h with
 | nil=>rfl
 | @cons e k t v r rs hk hv h ih=>
  have ek:CB x e.key=decide (x=k):=by
   rw[hk];show(k==x)=decide (x=k);by_cases z:x=k
   · rw[decide_eq_true z,z];exact beq_self_eq_true k
   · rw[decide_eq_false z];exact beq_eq_false_iff_ne.mpr λe=>z e.symm
  unfold look;by_cases z:x=k
  · rw[if_pos z];exact⟨e,by rw[List.find?_cons,ek,decide_eq_true z],hv⟩
  · rw[if_neg z,List.find?_cons,ek,decide_eq_false z];exact ih
theorem ON{kvs:List (Str×V)}(I:Inv X pins σ H s)(T:HV X.K X.w a kvs):
 (a==BO)=false∧∃f:Str→Option Value,s.heap.MapOf (strKind X.prog X.w) a f∧∀x,match look kvs x with | none=>f x=none | some v=>∃u,f x=some u∧RelV v u:=by
 obtain⟨h0,es,n,hl,hk,he⟩:=T;refine⟨h0,_,PySem.W.mapOf_K I.kIn hl hk,λx=>?_⟩;have:=QW he x;obtain⟨l⟩:=es;unfold findBy;rw[List.find?_toArray];dsimp only at this ⊢;cases e:look kvs x with
 | none=>rw[e] at this;dsimp only at this ⊢;rw[this];rfl
 | some v=> rw[e] at this;obtain⟨d,e1,e2⟩:=this;exact⟨d.val,by rw[e1];rfl,e2⟩
theorem SB:FB X (AK .NotIn) (λx y H Q=>∃k a kvs,x= .str k∧y= .ref a∧HV X.K X.w a kvs∧Q (.bl (!(look kvs k).isSome)) H):=by
 intro pins s σ H x y v u Q I rx ry h;obtain⟨k,a,kvs,rfl,rfl,T,q⟩:=h;obtain⟨t,rfl⟩:=(show ∃t,v=Value.str k t from rx);cases(show u=Value.ref a from ry);obtain⟨h0,f,hm,hf⟩:=ON I T;refine wpAny_notIn_of (strKind_is X.prog X.w k t) h0 hm ?_;have:=hf k;have e:(f k).isSome=(look kvs k).isSome:=by
  cases e:look kvs k with
  | none=>rw[e] at this;dsimp only at this;rw[this];rfl
  | some v=>rw[e] at this;obtain⟨u,e1,_⟩:=this;rw[e1];rfl
 rw[e];exact⟨.bl _,H,I.tok _,rfl,q⟩
theorem Qi:Jw X (λx y H Q=>∃a k kvs v,x= .ref a∧y= .str k∧HV X.K X.w a kvs∧look kvs k=some v∧Q v H):=by intro value slice pins s σ H x y v u Q I rx ry h hs;obtain⟨a,k,kvs,z,rfl,rfl,T,e,q⟩:=h;cases(show v=Value.ref a from rx);obtain⟨t,rfl⟩:=(show ∃t,u=Value.str k t from ry);obtain⟨h0,f,hm,hf⟩:=ON I T;have:=hf k;rw[e] at this;obtain⟨u,e1,r1⟩:=this;exact tail_any hm.typeIs PySem.F.slot_dict_getitem.lookup (wpAny_getItem_of (strKind_is X.prog X.w k t) hm e1 ⟨z,H,I.tok _,r1,q⟩) hs
def MT:R2:=λx y H Q=>∃a b xs,x= .ref a∧y= .ref b∧H a=some (.tup xs)∧H b=some (.tup [])∧Q (.bl xs.isEmpty) H
theorem Qr(hr:Ia X):FB X (AK .Eq) MT:=by
 intro pins s σ H x y v u Q I rx ry h;obtain⟨a,b,xs,rfl,rfl,ha,hb,q⟩:=h;cases(show v=Value.ref a from rx);cases(show u=Value.ref b from ry);unfold Ia at hr;obtain⟨_,its,rv,o,hg,hc,_,n,hd⟩:=(show ObjOk X.prog X.w H s.heap a (.tup xs) from I.hok a _ ha);obtain⟨_,its',rv',o',hg',hc',_,n',hd'⟩:=(show ObjOk X.prog X.w H s.heap b (.tup []) from I.hok b _ hb);cases rv';have l:=rv.length;have:=CL (l:=a) (b:=b) (A:=X.A) (e:=λ_=>true) (s:=s) (items:=its.toArray) (items2:=([]:List Value).toArray) ⟨_,hg,hc,_,hd⟩ ⟨_,hg',hc',_,hd'⟩ (by omega) (λj h1 h2=>absurd h2 (by simp));refine this X.prog X.w _ _ ?_;have e:((Ba (min its.toArray.size ([]:List Value).toArray.size)).all (λ_=>true) && its.toArray.size==([]:List Value).toArray.size)=xs.isEmpty:=by
  cases xs with
  | nil=> cases rv;rfl
  | cons x xs=>
   cases rv with
   | cons r1 r2=>simp
 rw[e];exact⟨.bl _,H,I,rfl,q⟩
open PySem.W PyProof.Rows
namespace KS
variable{lt:Nat→Nat→Bool}{N:Nat}
end KS
open PySem PySem.Spec PyProof.Rows PySem.W
open PySem PySem.Spec PyProof.Rows PySem.W
abbrev Ud:=Addr×Str×Int
def d3:Ud:=(0,"",0)
open PySem.AutoSeq1 (wpAny_loadPart')
open PySem.MeetsSeq PySem.MeetsSeq2 PySem.MeetsSeq3 PySem.SeqRoads2
open PySem PySem.Spec PyProof.Rows PySem.W
section
variable{o:HO}
end
open PySem PySem.Spec PyProof.Rows PySem.W
section
variable{o:Obj}{kvs:List (Gi×V)}
end
section
variable{tg:Expr}
end
section
variable{p:Addr}{g:TG}{tc:TT}{te:TE}{Q:VK}{o:Obj}{kvs:List (Gi×V)}{fs:List Str}
end
end L2
set_option maxHeartbeats 2000000
namespace L2
open PySem PySem.Spec PyProof.Rows PySem.W
section
variable{κ:Type}[DecidableEq κ]{knd:PySem.KeyKind prog w κ}
end
theorem SD(ns:List Int):preSum (λi=>ns.getD i 0) ns.length=ns.sum:=by
 have:∀n,n≤ns.length→preSum (λi=>ns.getD i 0) n=(ns.take n).sum:=by
  intro n
  induction n with
  | zero=>intro _;rfl
  | succ n ih=> intro hn;have e:ns[n]?=some ns[n]:=AB (by omega);rw[preSum,ih (by omega),FS e,List.sum_append];simp[AE,e]
 have:=this ns.length (Ae _);rw[BQ] at this;exact this
theorem Qd:AA "sum"=some (.builtin "sum"):=by decide+kernel
theorem Rx(hc:X.calm=true):GO X (.builtin "sum") (λxs H Q=>∃(p:Addr)(ns:List Int),xs=[.ref p]∧SqL X.K H p (ns.map V.int)∧Q (.int ns.sum) H):=by
 intro pins s σ H xs us Q I r h;obtain⟨p,ns,rfl,hq,q⟩:=h;obtain⟨u,rfl,rx⟩:=Hq r;cases rx;obtain⟨its,r',pl,hz⟩:=I.list hq;have hl:=pl.isList;have hlen:its.length=ns.length:=by have:=r'.length;simpa using this.symm
 have hpl:p<s.heap.objs.size:=by obtain⟨o,ho,_⟩:=hl;exact Aj ho
 refine call_sum_walkAnyS (CJ hl ?_);have W:=(Walks.list (prog:=X.prog) (w:=X.w) (A:=X.A.in1) (by simpa using I.ok.hd hc) s.heap.objs.size p (Au hpl) its.toArray).toS;refine⟨_,_,_,_,_,_,_,λi=>ns.getD i 0,rfl,W,⟨⟨_,An _ rfl,rfl,rfl⟩,hl.push _⟩,λb hb=>?_,λi v hv=>?_,λs' t' hm=>?_⟩
 · show b<(s.heap.push _).objs.size;rw[AW];rcases Aq.mp hb with rfl | hb
   · exact BD _
   · rcases Aq.mp hb with rfl | hb
     · exact CO hpl
     · cases hb
 · have hv:its[i]?=some v:=by simpa using hv
   obtain⟨n,en,t,rfl⟩:∃n,ns[i]?=some n∧∃t,v= .int n t:=by
    have hi:i<ns.length:=by have:=(Az.mp hv).1;omega
    have e1:(ns.map V.int)[i]?=some (.int ns[i]):=by rw[A5,AB hi];rfl
    obtain⟨u,h1,h2⟩:=Vals.get r' e1;rw[hv] at h1;cases h1;obtain⟨t,rfl⟩:=h2;exact⟨_,AB hi,t,rfl⟩
   refine⟨t,?_⟩;show Value.int n t=Value.int (ns.getD i 0) t;rw[AE,en];rfl
 · rw[Moved.eq_with hm];have e2:preSum (λi=>ns.getD i 0) its.toArray.size=ns.sum:=by rw[Ag,hlen];exact SD ns
   rw[e2];refine⟨.int ns.sum,H,I.kept (h':=s'.heap) (t':=s'.toks) λb o e=>hm.heap b o (λhmem=>?_) (Ac _ e),⟨_,rfl⟩,q⟩;rcases Aq.mp hmem with e1 | hmem
   · exact absurd (e1 ▸ Aj e) (Bw _)
   · cases hmem
set_option maxHeartbeats 3200000 in
theorem SR{l:Addr}{items:Array Value}{ns:List Int}{Q:Value→Shared→Prop}
 (hh:A.handled=none) (hl:s.heap.IsTuple l items) (hi:IntsAre items.toList ns) (hb:items.size+1<scanBound)
 (h:∀(h':Heap)(tk:Nat),h'.SetOf (intKind prog w) s.heap.objs.size (λk'=>(firstMet (λi=>ns.getD i 0) items.size).any (· ==k')) (firstMet (λi=>ns.getD i 0) items.size).length→
  (∀b o,b<s.heap.objs.size→s.heap.get? b=some o→h'.get? b=some o)→Q (.ref s.heap.objs.size) {s with heap:=h',toks:=tk}):
 wpAny (model prog w) A (call (.type "set") [.ref l]) Q E s:=by
 obtain⟨c,tl,hmro⟩:=PySem.F.called_set.mro;have hmade:=PySem.F.called_set.made;have hsub:=PySem.F.called_set.sub;refine wpAny_call (codeAny_of_tree ?_);show wpAny _ _ (callAny (.type "set") _) _ _ _;refine Af ⟨Code.quiet_builtin _ (by decide+kernel),BG PySem.F.entry_type_call ?_⟩;rw[Around.under_plain (weight_type_call_type "set" [.ref l] []) rfl];have h1:=PySem.F.called_set.notType;have h2:=PySem.F.called_set.canCreate;have hct:=PySem.F.typeCall_set_1 (.ref l)
 repeat (any_goals (first | assumption | wp_step))
 refine BX (SK (.ref l) (E:=E) (Q₁:=λobj s₁=>obj= .ref s.heap.objs.size∧s₁={s with heap:=s.heap.push {cls:= .type "set",dict:=none,data:= .set #[] 0 (.fresh 0 0 (!FY w))}}) ⟨rfl,rfl⟩) λr s₁ hr=>?_
 cases r with
 | error e=>exact hr
 | ok fl=>
  cases fl with
  | ret obj=>
   obtain⟨rfl,rfl⟩:=hr;have hS:(s.heap.push {cls:= .type "set",dict:=none,data:= .set #[] 0 (.fresh 0 0 (!FY w))}).get? s.heap.objs.size=some {cls:= .type "set",dict:=none,data:= .set #[] 0 (.fresh 0 0 (!FY w))}:=An _ rfl;have hT:Shared.TypeIs {s with heap:=s.heap.push {cls:= .type "set",dict:=none,data:= .set #[] 0 (.fresh 0 0 (!FY w))}} (.ref s.heap.objs.size) "set":=⟨_,hS,rfl⟩;have hli:=PySem.F.called_set.init.lookup;have hbi:=PySem.F.called_set.init.bind (.ref s.heap.objs.size)
   repeat (any_goals (first | assumption | wp_step))
   refine BX (Cz (R:=wants (λr s₂=>r= .none∧∃h' tk,s₂={s with heap:=h',toks:=tk}∧h'.SetOf (intKind prog w) s.heap.objs.size (λk'=>(firstMet (λi=>ns.getD i 0) items.size).any (· ==k')) (firstMet (λi=>ns.getD i 0) items.size).length∧
    (∀b o,b<s.heap.objs.size→s.heap.get? b=some o→h'.get? b=some o)) E) PySem.F.called_set.init.plain PySem.F.entry_set_init (check_set_init_1 hT ?_)) λr₂ s₂ hr₂=>?_
   · obtain⟨ol,hol,hcl,nl,hdl⟩:=hl;obtain⟨ocls,odict,odata,oslots⟩:=ol;simp only at hcl hdl;subst hcl;subst hdl;have hol':(s.heap.push {cls:= .type "set",dict:=none,data:= .set #[] 0 (.fresh 0 0 (!FY w))}).get? l=some {cls:= .type "tuple",dict:=odict,data:= .seq items nl,slots:=oslots}:=Ac _ hol;have hsls:=PySem.F.sub_tuple_set;have hslf:=PySem.F.sub_tuple_frozenset;have hne:(Value.type "tuple"==Value.type "dict")=false:=by decide
     have hl1:(s.heap.push {cls:= .type "set",dict:=none,data:= .set #[] 0 (.fresh 0 0 (!FY w))}).IsTuple l items:=⟨_,hol',rfl,nl,rfl⟩;unfold Builtin.«set.__init__» noKeywords Builtin.Frozenset.updateFrom;generalize hPI:pyIter=PI
     wp_walk
     subst hPI;refine BW hl1 ?_;refine Aa (wpAny_runValue ?_);have hlS:l<s.heap.objs.size:=Aj hol;have hh3:A.in1.in1.in1.handled=none:=by simp[hh]
     have hneI:l≠(s.heap.push {cls:= .type "set",dict:=none,data:= .set #[] 0 (.fresh 0 0 (!FY w))}).objs.size:=by rw[AW];exact Au (CO hlS)
     have hSf:s.heap.objs.size ∉ [(s.heap.push {cls:= .type "set",dict:=none,data:= .set #[] 0 (.fresh 0 0 (!FY w))}).objs.size,l]:=by rw[AW];simp only[Aq,Ao,A8,or_false,not_or];exact⟨Au (BD _),BB hlS⟩
     have hval:∀(i:Nat)(v:Value),items[i]?=some v→∃t,v= .int ((λi=>ns.getD i 0) i) t:=λi v hv=> IntsAre.int_at hi i v (by rw[Cr];exact hv);have W:=(Walks.tuple (prog:=prog) (w:=w) hh3 (s.heap.push {cls:= .type "set",dict:=none,data:= .set #[] 0 (.fresh 0 0 (!FY w))}).objs.size l hneI items).toS;refine codeAny_set_update_loopS W s.heap.objs.size hSf (λi=>ns.getD i 0) hval hb (items.size - 0) 0 _ (by omega) (BA _)
      ⟨⟨_,An _ rfl,rfl,rfl⟩,(hl1.push _)⟩ (SetOf_congr ((setObjOf_fresh (knd:=intKind prog w) (!FY w)).setOf (Ac _ hS) (by unfold scanBound;omega)) (λ_=>rfl) rfl) ?hR
     case hR=>
      intro s' hm hS';obtain⟨h',g',d',tk',os'⟩:=s';have eg:g'=s.gens:=hm.gens;have ed:d'=s.drawn:=hm.drawn;have eo:os'=s.os:=hm.os;subst eg;subst ed;subst eo;show wpAny _ _ _ _ _ _;refine Af ?_;show wpAny _ _ (ret Value.none) _ _ _;refine Af ⟨rfl,h',tk',rfl,hS',λb o hb e=>?_⟩;have hb1:b≠s.heap.objs.size:=Au hb;have hb2:b≠(s.heap.push {cls:= .type "set",dict:=none,data:= .set #[] 0 (.fresh 0 0 (!FY w))}).objs.size:=by rw[AW];exact Au (CO hb)
      exact hm.heap b o (by simp only[Aq,Ao,A8,or_false,not_or];exact⟨hb1,hb2⟩) (Ac _ (Ac _ e))
   · cases r₂ with
     | error e=>exact hr₂
     | ok fl₂=>
      cases fl₂ with
      | ret r=>
       obtain⟨rfl,h',tk,rfl,hS',hk'⟩:=hr₂
       repeat (any_goals (first | assumption | wp_step))
       exact h _ _ hS' hk'
      | _=>exact hr₂.elim
  | _=>exact hr.elim
section
variable{te:TE}{p2 p3 p4:Pos}
def Rr(K:Ad)(te:TE):TE:=λσ H Q=>te σ H λx H1=>∃a ns,[x]=[V.ref a]∧SqT K H1 a (ns.map V.int)∧ns.length<4000∧Q (.int (IL ns)) H1
theorem RH(hc:X.calm=true)(he:PE X e te)(hg:Gl X "len")(hm:X.mg "len"=none)(hg2:Gl X "set")(hm2:X.mg "set"=none)
 (h1:Av [e] X.env=(false,eval e X.env)::Av [] X.env:=by rfl)
 (h2:Av [.Call (.Name "set" p2) [e] [] p3] X.env=(false,eval (.Call (.Name "set" p2) [e] [] p3) X.env)::Av [] X.env:=by rfl)
 (h3:(backTo p3 (Av [] X.env)).any (·.1)=false:=by rfl) (h4:(backTo pos (Av [] X.env)).any (·.1)=false:=by rfl):
 PE X (.Call (.Name "len" p4) [.Call (.Name "set" p2) [e] [] p3] [] pos) (Rr X.K te):=by
 intro pins s σ H Q I h;refine Bk (IF I hg hm FP ?_ (by decide) (by decide));refine Cu ?_ h2 h4;rw[h2];show wpAny _ _ (spliced ((false,eval (.Call (.Name "set" p2) [e] [] p3) X.env)::backTo pos (Av [] X.env))) _ _ s;refine Calls.spliced_cons ?_;refine Bk (IF I hg2 hm2 Qc ?_ (by decide) (by decide));refine Bt (EY (EJ he EM h1 p3 pins s σ H (λvs H1=>∃a ns,vs=[.ref a]∧SqT X.K H1 a (ns.map V.int)∧ns.length<4000∧Q (.int (IL ns)) H1) I ?_) λus s1 ⟨vs,H1,I1,r1,a,ns,hv,hq,hn,q⟩=>?_) h1 h3
 · exact h
 subst hv;obtain⟨u1,rfl,v1⟩:=Hq r1;cases v1;obtain⟨its,rv,ht,hz⟩:=I1.tuple hq;have hlen:=rv.length;rw[Ab] at hlen;refine SR (I1.ok.hd hc) ht (ns:=ns) (by simpa using Sj rv) (by rw[Ag];unfold scanBound;omega) λh' tk hS kp=>?_;have I2:Inv X pins σ H1 {s1 with heap:=h',toks:=tk}:=I1.kept λb o e=>kp b o (Aj e) e
 refine Calls.spliced_nil ?_;obtain⟨o,es,ep,t,ho,hex,hd,_,_,hb,hf,hsz⟩:=hS;refine call_len_set ho hex hd hf (by unfold scanBound at hb;omega) ?_;have:es.size=IL ns:=by rw[hsz];unfold IL firstMet;rw[Ag,←hlen,R6]
 rw[this];exact⟨.int (IL ns),H1,I2.kept (t':=tk+1+1) (λb u e=>e),⟨tk+1,rfl⟩,q⟩
end
def NL(X:Cx)(k:Nat)(ps:List Str)(tf:TE)(t:TA):TE:=λσ H Q=>tf σ H λv H1=>∃(f:Addr),v= .ref f∧BI X.K (.ref f)=true∧t σ H1 λvs H2=>∃(fd:AJ)(sp:Sp),FnOk X.prog X.w X.K X.mg X.base Fe k f fd ps sp∧Binds X.K fd ps []∧sp vs H2 Q E0
theorem Ri(k:Nat)(ps:List Str){p:Pos}{es:List Expr}{tf:TE}{t:TA}(hf:PE X (.Name x p) tf)(hr:Room k X.A)(ha:PA X (e::es) t)(he:Av (e::es) X.env=(false,eval e X.env)::Av es X.env:=by rfl)(hpl:(backTo pos (Av es X.env)).any (·.1)=false:=by rfl):
 PE X (.Call (.Name x p) (e::es) [] pos) (NL X k ps tf t):=by
 intro pins s σ H Q I h;refine Bk (EY (hf pins s σ H _ I h) λu s1 ⟨v,H1,I1,rv,f,ev,hk,q⟩=>?_);subst ev;obtain rfl:u=Value.ref f:=rv;refine PySem.W.callWith_K (h₀:=X.base) I1.ok.mod.kin hk (EY (ha pos pins s1 σ H1 _ I1 q) λus s2 ⟨vs,H2,I2,r,fd,sp,F,hb,q2⟩=>⟨I2.kIn,?_⟩) he hpl;exact NH F hr hb .nil N8 I2 r (by rw[Dh];exact q2)
theorem Sa:∀k<26,(C1 (97+k)).length=1:=by decide+kernel
theorem Sc{c:Nat}(h:FR c=true):(C1 c).length=1:=by
 unfold FR at h;rw[Ah] at h;have h1:=of_decide_eq_true h.1;have h2:=of_decide_eq_true h.2;have:=Sa (c - 97) (by omega)
 rwa [show 97+(c - 97)=c by omega] at this
theorem Sb(h:∀c∈x.cps.toList,FR c=true):(Txt.upper x).length=x.length:=by
 show(x.cps.mapIdx λ_ c=>(C1 c).toArray).flatten.size=x.cps.size;rw[Array.size_flatten];have:((x.cps.mapIdx λ_ c=>(C1 c).toArray).map Array.size)=x.cps.map λ_=>1:=by
  apply Array.ext
  · simp
  · intro i h1 h2;simp only[Array.getElem_map,Array.getElem_mapIdx,Ag];exact Sc (h _ (by simp))
 rw[this];have:∀l:List Nat,(l.map λ_=>1).sum=l.length:=λl=>by
  induction l with
  | nil=>rfl
  | cons a l ih=>rw[AH,List.sum_cons,ih,Aw];omega
 rw[←Array.sum_toList,Array.toList_map,this,A3]
def PH:V→List V→Hp→VK→Prop:=λx vs H Q=>∃y:Str,x= .str y∧vs=[]∧FieldOk y∧∀z:Str,z.length≤8→Q (.str z) H
theorem R7:Nr X "str.upper" PH:=by intro pins s σ H x vs v us Q I rx rv h;obtain⟨y,rfl,rfl,ok,q⟩:=h;obtain⟨t,rfl⟩:=rx;have hus:=rv.zero;subst hus;have hl:=Sb ok.all;refine SC.upper (by rw[hl];unfold Builtin.Str.tooLong;rw[decide_eq_false];have:=ok.eight;rw[sizeLine_eq];omega) ?_;exact⟨.str _,H,I.tok _,⟨_,rfl⟩,q _ (by rw[hl];exact ok.eight)⟩
def Fg:DY→Bool
 | .int i=>decide (0≤i)
 | _=>false
def F8:DY→Int
 | .int i=>i
 | _=>0
def Gn(ds:List DY):Bool:=decide (2≤ds.length) && (ds.all Fg && decide ((ds.map F8).Nodup))
def F9:DY→Bool
 | .tup ds=>Gn ds
 | _=>false
def Gu:DY→Bool
 | .tup [a,b]=>Fg a && Fg b
 | _=>false
def FV:DY→Int
 | .tup (.int i::_)=>i
 | _=>0
def Fl:List DY→Bool
 | d::e::r=>decide (FV d<FV e) && Fl (e::r)
 | _=>true
def GS:DY→Bool
 | .tup ds=>ds.all Gu && Fl ds
 | _=>false
def GI:List DY→Bool
 | [a,b,p]=>Fg a && (Fg b && G0 p)
 | _=>false
def HB:DY→Bool
 | .tup ds=>GI ds
 | _=>false
def GA:DY→Bool
 | .tup ds=>ds.all HB
 | _=>false
def Hr:List DY→Bool
 | [w]=>GF w
 | _=>false
def GY:List DY→Bool
 | [n,w]=>FK n && F9 w
 | _=>false
def HD:List DY→Bool
 | [n,w,m,p]=>FK n && F9 w && (GS m && GA p)
 | _=>false
def FQ(w:Str)(r:List DY):Bool:=if w="want" then Hr r else if w="unwant" then Hr r else if w="news" then GI r else if w="here" then GY r else if w="kept" then HD r else false
def Ic:DY→Bool
 | .tup (.str w::r)=>FQ w r
 | _=>false
structure Pile(H:Hp)(b l:Addr)(n:Int):Prop where
 ex:∃(ls:List Int)(i r s:Int),H b=some (.lst [.ref l,.int i,.int r,.int s])∧H l=some (.lst (ls.map V.int))∧ls.length≤63∧0≤i∧i≤n∧0≤r∧0≤s∧s<2147483648
 bl:b≠l
theorem Pile.mono{l:Addr}{n m:Int}(B:Pile H b l n)(h:n≤m):Pile H b l m:=by obtain⟨⟨ls,i,r,s,h1,h2,h3,h4,h5,h6⟩,h7⟩:=B;exact⟨⟨ls,i,r,s,h1,h2,h3,h4,by omega,h6⟩,h7⟩
theorem Pile.same{H':Hp}{l:Addr}{n:Int}(B:Pile H b l n)(s:Same H H'):Pile H' b l n:=by obtain⟨⟨ls,i,r,sd,h1,h2,h3⟩,h7⟩:=B;exact⟨⟨ls,i,r,sd,s _ _ h1,s _ _ h2,h3⟩,h7⟩
theorem Pile.free{l p:Addr}{n:Int}(B:Pile H b l n)(h:H p=none):p≠b∧p≠l:=by
 obtain⟨⟨ls,i,r,sd,h1,h2,h3⟩,h7⟩:=B;refine⟨λe=>?_,λe=>?_⟩
 · rw[e,h1] at h;cases h
 · rw[e,h2] at h;cases h
theorem Pile.off{l p:Addr}{n:Int}{o:HO}(B:Pile H b l n)(h1:p≠b)(h2:p≠l):Pile (EO H p o) b l n:=by obtain⟨⟨ls,i,r,sd,e1,e2,h3⟩,h7⟩:=B;exact⟨⟨ls,i,r,sd,by rw[Fz h1.symm];exact e1,by rw[Fz h2.symm];exact e2,h3⟩,h7⟩
abbrev Fh(b:Addr)(H H':Hp):Prop:=SameB b b H H'
abbrev hp(b:Addr)(H:Hp):Hp:=HU b b H
def NJ(K:Ad):Sp:=λvs H Q _=>∃(a:Addr)(ns:List Int),vs=[.ref a]∧SqL K H a (ns.map V.int)∧ns.length≤63∧∀(b l:Addr)(H':Hp),Pile H' b l 0→Same H H'→H b=none→Q (.ref b) H'
def JV:Sp:=λvs H Q _=>∃(b l:Addr)(n many:Int),vs=[.ref b,.int many]∧Pile H b l n∧n≤10^8∧0<many∧many<2^500∧∀(r:Int)(H':Hp),0≤r→r<many→Pile H' b l (n+1)→Fh b H H'→Q (.int r) H'
mutual
def EZ:DY→Bool
 | .non=>true
 | .int _=>true
 | .str x=>FT x
 | .tup ds=>decide (ds.length≤100) && ID ds
 | _=>false
def ID:List DY→Bool
 | []=>true
 | d::ds=>EZ d && ID ds
end
def JE(d:DY)(o:Option Int):Bool:=match d with
 | .int i=>(match o with
  | none=>true
  | some m=>decide (m≤i))
 | _=>false
def GJ(n:Nat):DY→Bool
 | .tup ds=>decide (ds.length=n) && FK (ds.getD 0 .non)
 | _=>false
def Ji(n:Nat):DY→Bool
 | .tup ds=>ds.all (GJ n) && E_ ds
 | _=>false
def IU:Sp:=λvs H Q _=>∃(v:V)(d:DY)(o:Option Int),vs=[v,eV o]∧RepY H d v∧∀H',Same H H'→Q (.bl (JE d o)) H'
def NK:Sp:=λvs H Q _=>∃(v:V)(d:DY)(n:Nat),vs=[v,.int (n:Int)]∧1≤n∧n≤3∧RepY H d v∧∀H',Same H H'→Q (.bl (Ji n d)) H'
abbrev Ha(f:List DY→Bool):Sp:=LQ (λ_=>True) f
def NI:Sp:=λvs H Q _=>∃(v v':V)(d d':DY),vs=[v,v']∧RepY H d v∧RepY H d' v'∧∀H',Same H H'→Q (.bl (GS d && GA d')) H'
def Os:Sp:=λvs H Q _=>∃x y:Bool,vs=[.bl x,.bl y]∧∀H',Same H H'→Q (.bl (x==y)) H'
def Ny:Sp:=λvs H Q _=>∃(b l:Addr)(n:Int)(m:Nat),vs=[.ref b,.int (m:Int)]∧Pile H b l n∧n≤10^7∧1≤m∧m≤3∧∀(r:Addr)(ts:List Str)(H':Hp),H r=none→H' r=some (.lst (ts.map V.str))→ts.length=m→(∀x∈ts,FieldOk x)→ts.Nodup→Pile H' b l (n+40)→Fh b H H'→Q (.ref r) H'
def JZ:Sp:=λvs H Q _=>∃(b l:Addr)(n:Int),vs=[.ref b]∧Pile H b l n∧n≤2*10^7∧∀(r:Int)(H':Hp),Pile H' b l (n+5)→Fh b H H'→Q (.int r) H'
structure FldsAt(H:Hp)(b a:Addr)(fs:List Str):Prop where
 at':H a=some (.lst (fs.map V.str))
 ne:a≠b
 len:fs.length≤3
 ok:∀f∈fs,FieldOk f
 asc:fs.Pairwise GB
def KC(f:DY→Bool):Sp:=λvs H Q _=>∃(b l a:Addr)(n:Int)(fs:List Str),vs=[.ref b,.ref a]∧Pile H b l n∧n≤10^7∧FldsAt H b a fs∧∀(v:V)(d:DY)(H':Hp),RepY (hp b H') d v→f d=true→EZ d=true→Pile H' b l (n+40)→Fh b H H'→Q v H'
def Nx:Sp:=λvs H Q _=>∃(b l:Addr)(n:Int)(m:Nat),vs=[.ref b,.int (m:Int)]∧Pile H b l n∧n≤10^7∧m≤50∧∀(r:Addr)(ns:List Int)(H':Hp),H r=none→H' r=some (.lst (ns.map V.int))→ns.length=m→(∀x∈ns,0≤x)→ns.Pairwise (· < ·)→Pile H' b l (n+200)→Fh b H H'→Q (.ref r) H'
def JX:Sp:=λvs H Q _=>∃(b l:Addr)(n:Int),vs=[.ref b,.int 4]∧Pile H b l n∧n≤10^7∧∀(r:Int)(H':Hp),0≤r→r<39→Pile H' b l (n+2)→Fh b H H'→Q (.int r) H'
def Nu:Sp:=λvs H Q _=>∃(b l:Addr)(n:Int),vs=[.ref b]∧Pile H b l n∧n≤10^7∧∀(r:Int)(H':Hp),0≤r→Pile H' b l (n+2)→Fh b H H'→Q (.int r) H'
def Nw:Sp:=λvs H Q _=>∃(b l a:Addr)(n word:Int)(x:Str)(fs:List Str),vs=[.ref b,.int word,.str x,.ref a]∧Pile H b l n∧n≤10^6∧0≤word∧word<5∧FieldOk x∧FldsAt H b a fs∧∀(v:V)(d:DY)(H':Hp),RepY (hp b H') d v→Ic d=true→EZ d=true→Pile H' b l (n+5000)→Fh b H H'→Q v H'
def IV:Sp:=λvs H Q _=>∃(b l:Addr)(n:Int),vs=[.ref b]∧Pile H b l n∧n≤10^7∧∀(v:V)(d:DY)(H':Hp),RepY (hp b H') d v→Pile H' b l (n+1)→Fh b H H'→Q v H'
def L6:Sp:=λvs H Q _=>∃(b l:Addr)(n:Int)(v:V)(d:DY),vs=[.ref b,v]∧Pile H b l n∧n≤5*10^6∧RepY (hp b H) d v∧EZ d=true∧∀(v':V)(d':DY)(H':Hp),RepY (hp b H') d' v'→Pile H' b l (n+5)→Fh b H H'→Q v' H'
def L7(m:Nat):Sp:=λvs H Q _=>∃(b l:Addr)(n:Int)(v:V)(d:DY),vs=[.ref b,v,.int (m:Int)]∧Pile H b l n∧n≤10^6 - 10*(m:Int)∧RepY (hp b H) d v∧EZ d=true∧∀(v':V)(d':DY)(H':Hp),RepY (hp b H') d' v'→Pile H' b l (n+10+5*(m:Int))→Fh b H H'→Q v' H'
structure Forms(K:Ad)(w:World)(mg:Str→Option Value)(aF fw fn fh fk:Addr):Prop where
 m:mg "FORMS"=some (.ref aF)
 d:HV K w aF [("want",.ref fw),("unwant",.ref fw),("news",.ref fn),("here",.ref fh),("kept",.ref fk)]
 mw:mg "behind_want"=some (.ref fw)
 mn:mg "behind_news"=some (.ref fn)
 mh:mg "behind_here"=some (.ref fh)
 mq:mg "behind_kept"=some (.ref fk)
end L2
set_option maxHeartbeats 1000000
namespace L2
open PySem PySem.Spec PyProof.Rows PySem.W
def Qw:R2:=λx y H Q=>∃a b xs ys,x= .ref a∧y= .ref b∧H a=some (.tup xs)∧H b=some (.tup ys)∧xs.length+ys.length≤Ak∧∀p H',Same H H'→H' p=some (.tup (xs++ys))→Q (.ref p) H'
theorem GQ:FB X (binaryOp .Add) Qw:=by
 intro pins s σ H x y v u Q I rx ry h;obtain⟨a,b,xs,ys,rfl,rfl,ha,hb,hz,q⟩:=h;cases rx;cases ry;obtain⟨its,r1,p1,_⟩:=I.tuple (SqT.of ha);obtain⟨its2,r2,p2,_⟩:=I.tuple (SqT.of hb);by_cases hx:xs=[]
 · subst hx;cases r1;obtain⟨⟨cls,dd,data,sl⟩,ho,hc,n,hd⟩:=id p1;obtain⟨⟨cls2,dd2,data2,sl2⟩,ho2,hc2,n2,hd2⟩:=id p2;simp only at hc hd hc2 hd2;subst hc hd hc2 hd2;exact concat_meets ⟨_,ho,rfl⟩ ⟨_,ho2,rfl⟩ noFill_tuple_add seq_tuple_add Ck Cf (BZ _ _)
    (tuple_addW0 a b _ _ n n2 dd dd2 sl sl2 rfl) ⟨ho,ho2,⟨.ref b,H,I,rfl,q b H (Same.refl _) hb⟩⟩
 · refine HT.cat_tup p1 p2 (λz=>hx (r1.nil_iff.mp z)) (λz=>⟨.ref a,H,I,rfl,q a H (Same.refl _) (by rw[r2.nil_iff.mp z,Dh];exact ha)⟩) (λz=>?_) (by rw[←r1.length,←r2.length];exact hz);have hn:=I.hok.fresh (Ae _);refine⟨.ref s.heap.objs.size,_,I.laid (t':=s.toks) (o:= .tup (xs++ys)) (λb ob q=>Ac _ q) (Ae _) ?_,rfl,q _ _ (EW hn _) EU⟩;exact⟨by rw[Ai];exact hz,_,r1.append r2,IsTupP.new _ _⟩
def Kc:V→Option Int→Option Int→Hp→VK→Prop:=λx lo hi H Q=>∃a xs,x= .ref a∧H a=some (.tup xs)∧∀p H',Same H H'→H' p=some (.tup (Fk xs lo hi))→Q (.ref p) H'
theorem Si{lo hi:Option Int}(h:HT.sIx xs.length 0 lo=0∧HT.sIx xs.length xs.length hi=xs.length):Fk xs lo hi=xs:=by unfold Fk;rw[h.1,h.2,List.drop_zero,Nat.sub_zero];exact As (Ae _)
theorem G4:Jv X Kc:=by intro pins s σ H x v vl vu lo hi sl Q I rx hs pl pu h;obtain⟨a,xs,rfl,ha,q⟩:=h;exact Oq pins s σ H (.ref a) v vl vu lo hi sl Q I rx hs pl pu ⟨a,xs,rfl,SqT.of ha,λhw=>q a H (Same.refl _) (by rw[Si hw];exact ha),λ_ p hp=>q p _ (EW hp _) EU⟩
theorem KJ{K:Ad}{Q:VK}{ds:List DY}{f:DY→Bool}(e0:σ[0]?=some (some (V.ref a)))(ha:H a=some (.tup xs))(hx:RepYs H ds xs)(hl:ds.length≤900)(q:∀H',Same H H'→Q (.bl (ds.all f)) H'):
 JU (λxs H Q=>∃a bs,xs=[V.ref a]∧SqL K H a (List.map V.bl bs)∧Q (V.bl (bs.all id)) H) (GK (Pk (Ko K (F6 0)) [none] (Ky 0) JT (Jk (F5 f) [] E0 (GK (F6 0) Go))) Go) σ H Q:=by
 have lx:=hx.length;refine⟨_,e0,a,rfl,⟨_,SqT.of ha⟩,λp hp=>?_⟩;refine Jn (xs:=xs) (λi σ' ys H'=>(∃v,σ'=[v])∧Same H H'∧H' p=some (.lst ys)∧ys=((ds.take i).map f).map V.bl) ⟨⟨none,rfl⟩,EW hp _,EU,rfl⟩ ?_ ?_ ?_
 · rintro i σ' ys H' hi ⟨_,s,h1,h3⟩;refine⟨s.seqT (SqT.of ha),h1,?_⟩;rw[h3,Ab,Ab,A4];exact G2 (by omega)
 · rintro i x σ' ys H' N hx' ⟨⟨v,rfl⟩,s,h1,h3⟩ hN;obtain⟨d1,e1,r1⟩:=hx.get hx';refine⟨_,rfl,x,d1,rfl,r1.same s,λH2 s2=>?_⟩;refine⟨s2 _ _ h1,hN _ _ _ ⟨⟨_,rfl⟩,Hy (s.trans s2) hp,EU,?_⟩⟩;rw[h3,FS e1,Am,Am];rfl
 · rintro σ' ys H' ⟨_,s,h1,h3⟩;rw[As (by omega)] at h3;refine⟨p,ds.map f,rfl,SqL.of (by rw[h1,h3]),?_⟩;have:(ds.map f).all id=ds.all f:=by rw[List.all_map];rfl
   rw[this];exact q _ s
theorem KW{d:DY}(h:Fg d=true):∃i:Int,d= .int i∧0≤i:=by
 cases d with
 | int i=>exact⟨i,rfl,of_decide_eq_true h⟩
 | _=>cases h
theorem LY:∀{ds:List DY}{xs:List V},RepYs H ds xs→ds.all Fg=true→xs=(ds.map F8).map V.int
 | [],xs,h,_=>by rw[RepYs] at h;exact h
 | d::ds,xs,h,n=>by rw[RepYs] at h;obtain⟨x,r,rfl,h1,h2⟩:=h;rw[A9,Ah] at n;obtain⟨i,rfl,_⟩:=KW n.1;rw[RepY] at h1;rw[h1,LY h2 n.2];rfl
theorem M5:∀(ns acc:List Int),acc.Nodup→((ns.foldl step_dedup acc).length=acc.length+ns.length↔(acc++ns).Nodup)∧(ns.foldl step_dedup acc).length≤acc.length+ns.length
 | [],acc,h=>by simp[h]
 | n::ns,acc,h=>by
  rw[List.foldl_cons];by_cases hn:n∈acc
  · have e:step_dedup acc n=acc:=by
     unfold step_dedup;rw[if_pos];exact List.any_eq_true.mpr ⟨n,hn,by simp⟩
    rw[e];obtain⟨_,h2⟩:=M5 ns acc h;refine⟨⟨λz=>?_,λz=>?_⟩,by rw[Aw];omega⟩
    · rw[Aw] at z;omega
    · exfalso;rw[Cj] at z;exact z.2.2 n hn n A6 rfl
  · have e:step_dedup acc n=acc++[n]:=by
     unfold step_dedup;rw[if_neg];intro z;obtain⟨x,hx,hx2⟩:=List.any_eq_true.mp z;have:=eq_of_beq hx2;subst this;exact hn hx
    rw[e];have nd:(acc++[n]).Nodup:=by rw[Cj];exact⟨h,by simp,λx hx y hy=>by rw[Ao] at hy;subst hy;exact λe=>hn (e ▸ hx)⟩
    obtain⟨h1,h2⟩:=M5 ns (acc++[n]) nd;rw[List.append_assoc] at h1;rw[Ai,Cp] at h1 h2;rw[Aw];refine⟨?_,by omega⟩;rw[show acc.length+(ns.length+1)=acc.length+1+ns.length by omega];exact h1
theorem RU(ns:List Int):decide (V.int (IL ns:Nat)=V.int (ns.length:Nat))=decide ns.Nodup:=by
 have:=(M5 ns [] List.nodup_nil).1;rw[List.length_nil,Nat.zero_add,List.nil_append] at this;rw[BU,decide_eq_true_iff,decide_eq_true_iff,←this];unfold IL;constructor
 · intro z;injection z with z
   omega
 · intro z;rw[z]
theorem O9{ds:List DY}(h:ds.length<2):Gn ds=false:=by unfold Gn;rw[decide_eq_false (by omega)];rfl
theorem RepYs.one{d:DY}(h:RepYs H [d] xs):∃x,xs=[x]∧RepY H d x:=by rw[RepYs] at h;obtain⟨x,r,rfl,h1,h⟩:=h;rw[RepYs] at h;subst h;exact⟨x,rfl,h1⟩
theorem RepYs.four{d e f g:DY}(h:RepYs H [d,e,f,g] xs):∃x y z u,xs=[x,y,z,u]∧RepY H d x∧RepY H e y∧RepY H f z∧RepY H g u:=by rw[RepYs] at h;obtain⟨x,r,rfl,h1,h⟩:=h;obtain⟨y,z,u,rfl,h2,h3,h4⟩:=h.three;exact⟨x,y,z,u,rfl,h1,h2,h3,h4⟩
theorem KP{d:DY}(h:Gu d=true):∃i j:Int,d= .tup [.int i,.int j]∧0≤i∧0≤j:=by
 cases d with
 | tup ds=>
  match ds,h with
  | [a,b],h=> unfold Gu at h;rw[Ah] at h;obtain⟨i,rfl,hi⟩:=KW h.1;obtain⟨j,rfl,hj⟩:=KW h.2;exact⟨i,j,rfl,hi,hj⟩
 | _=>cases h
theorem OY:∀ds:List DY,Fl ds=((Ba (ds.length - 1)).map λi=>decide (FV (ds.getD i .non)<FV (ds.getD (i+1) .non))).all id
 | []=>rfl
 | [d]=>rfl
 | d::e::r=>by have ih:=OY (e::r);unfold Fl;rw[ih];show _=((Ba (r.length+1)).map _).all id;rw[BH,AH,A9,List.map_map];rfl
theorem K6{α:Type}:∀{l:List α},l.length=1→∃a,l=[a]
 | [a],_=>⟨a,rfl⟩
theorem JI{α:Type}:∀{l:List α},l.length=2→∃a b,l=[a,b]
 | [a,b],_=>⟨a,b,rfl⟩
theorem O8{α:Type}:∀{l:List α},l.length=3→∃a b c,l=[a,b,c]
 | [a,b,c],_=>⟨a,b,c,rfl⟩
theorem Oa{α:Type}:∀{l:List α},l.length=4→∃a b c d,l=[a,b,c,d]
 | [a,b,c,d],_=>⟨a,b,c,d,rfl⟩
theorem RepYs.cons_of{d:DY}{ds:List DY}(h:RepYs H (d::ds) xs):∃x r,xs=x::r∧RepY H d x∧RepYs H ds r:=by rw[RepYs] at h;exact h
theorem QI{ta tb:TE}{D:Ends}(h:ta σ H λx H1=>∃c,x= .bl c∧if c=true then tb σ H1 D.rt else D.rt (.bl false) H1):HM (Nz ta tb) D σ H:=h
theorem Qo{t:TE}{Q:Bool→Hp→Prop}(h:t σ H λx H1=>∃b,x= .bl b∧Q (!b) H1):IP (tB t) σ H Q:=h
theorem LV(xs:List V):Fk xs (some 1) none=xs.drop 1:=NR xs 1
theorem OC:∀(L:List DY)(d:DY),E_ (L++[d])=(E_ L && match L.getLast? with
 | none=>true
 | some e=>FA e d)
 | [],d=>rfl
 | [e],d=>by show(FA e d && true)=(true && FA e d);simp
 | e::f::r,d=>by have ih:=OC (f::r) d;show(FA e f && E_ (f::r++[d]))=((FA e f && E_ (f::r)) && _);rw[ih,De,D2]
theorem Oh:∀(L M:List DY),E_ (L++M)=true→E_ L=true
 | [],_,_=>rfl
 | [e],_,_=>rfl
 | e::f::r,M,h=>by have h':(FA e f && E_ (f::r++M))=true:=h;rw[Ah] at h';show(FA e f && E_ (f::r))=true;rw[h'.1,Oh (f::r) M h'.2];rfl
theorem Q5{ds:List DY}(h:E_ (ds.take k)=false):E_ ds=false:=by
 cases c:E_ ds with
 | false=>rfl
 | true=> rw[←BN k ds] at c;rw[Oh _ _ c] at h;cases h
theorem KL{f:DY→Bool}{ds:List DY}{d:DY}(e:ds[i]?=some d)(h:f d=false):ds.all f=false:=by
 cases c:ds.all f with
 | false=>rfl
 | true=>rw[Ay.mp c d (AO e)] at h;cases h
theorem Mn{d:DY}(h:GJ n d=true)(n1:1≤n):∃x r,d= .tup (.str x::r)∧FT x=true∧r.length+1=n:=by
 cases d with
 | tup ds=>
  unfold GJ at h;rw[Ah] at h;have hl:=of_decide_eq_true h.1;cases ds with
  | nil=>simp at hl;omega
  | cons d0 r=>
   have hf:FK d0=true:=h.2;cases d0 with
   | str x=>exact⟨x,r,rfl,hf,by rw[Aw] at hl;omega⟩
   | _=>cases hf
 | _=>cases h
def Jh(L:List DY):Str:=match L.getLast? with
 | none=>""
 | some e=>(Gy e).getD ""
theorem O_(h:FT x=true):1≤x.length∧x.length≤8:=by unfold FT at h;rw[Ah,Ah] at h;exact⟨of_decide_eq_true h.1.1,of_decide_eq_true h.1.2⟩
theorem QQ{L:List DY}{d:DY}(hx:Gy d=some x)(h1:1≤x.length)(hL:∀e∈L,∃y,Gy e=some y):decide ((Jh L).cps.toList<x.cps.toList)=(match L.getLast? with
 | none=>true
 | some e=>FA e d):=by
 unfold Jh;cases c:L.getLast? with
 | none=>
  dsimp only;have:("":Str).cps.toList=[]:=rfl;rw[this];cases e:x.cps.toList with
  | nil=> have:x.cps.toList.length=x.length:=A3;rw[e] at this;simp at this;omega
  | cons a r=>exact decide_eq_true (List.nil_lt_cons a r)
 | some e=>
  dsimp only;obtain⟨y,hy⟩:=hL e (C2 c);rw[KD hy hx];have:(Gy e).getD ""=y:=by rw[hy];rfl
  exact decide_eq_decide.mpr (by rw[this])
theorem Se{ds:List DY}(h:GF (.tup ds)=true):Ji 3 (.tup ds)=true:=by have h':(ds.all Gg && E_ ds)=true:=h;rw[Ah] at h';show(ds.all (GJ 3) && E_ ds)=true;rw[h'.2,AZ];refine Ay.mpr λd hd=>?_;have:=Ay.mp h'.1 d hd;obtain⟨x,lo,hi,rfl,hf,_⟩:=OW this;unfold Gg at this;rw[Ah] at this;unfold GJ;rw[Ah];exact⟨rfl,this.1⟩
theorem RJ{ds:List DY}(h:G0 (.tup ds)=true):Ji 2 (.tup ds)=true:=by
 have h':(ds.all Gs && E_ ds)=true:=h;rw[Ah] at h';show(ds.all (GJ 2) && E_ ds)=true;rw[h'.2,AZ];refine Ay.mpr λd hd=>?_;have:=Ay.mp h'.1 d hd;cases d with
 | tup es=>
  match es,this with
  | [f,n],this=> unfold Gs at this;rw[Ah] at this;unfold GJ;rw[Ah];exact⟨rfl,this.1⟩
 | _=>cases this
theorem QH{d:DY}{v:V}(h:RepY H d v):decide (v= .non)=(match d with
 | .non=>true
 | _=>false):=by
 cases d with
 | non=>rw[RepY] at h;subst h;rfl
 | bl b=>rw[RepY] at h;subst h;rfl
 | int i=>rw[RepY] at h;subst h;rfl
 | str x=>rw[RepY] at h;obtain⟨rfl,_⟩:=h;rfl
 | lst ds=>rw[RepY] at h;obtain⟨a,xs,rfl,_⟩:=h;rfl
 | tup ds=>rw[RepY] at h;obtain⟨a,xs,rfl,_⟩:=h;rfl
 | dic=>rw[RepY] at h;obtain⟨a,rfl,_⟩:=h;rfl
 | da d=>rw[RepY] at h;obtain⟨a,u,rfl,_⟩:=h;rfl
theorem OG{v:V}{d:DY}{R:Bool→Hp→Prop}(e:σ[i]?=some (some v))(hd:RepY H d v)(k:∀H',Same H H'→R (!Fu d) H'):IT (tB (N2 (F6 i))) (IP (tB (Jk IU [] E0 (GK (F6 i) (GK (tC V.non) Go))))) σ H R:=by
 refine⟨_,e,_,rfl,?_⟩;rw[QH hd];cases d with
  | non=>exact EK (k H (Same.refl _))
  | int j=>exact EL ⟨_,e,v,.int j,none,rfl,hd,λH' s=>⟨_,rfl,k _ s⟩⟩
  | bl b=>exact EL ⟨_,e,v,.bl b,none,rfl,hd,λH' s=>⟨_,rfl,k _ s⟩⟩
  | str x=>exact EL ⟨_,e,v,.str x,none,rfl,hd,λH' s=>⟨_,rfl,k _ s⟩⟩
  | lst ds=>exact EL ⟨_,e,v,.lst ds,none,rfl,hd,λH' s=>⟨_,rfl,k _ s⟩⟩
  | tup ds=>exact EL ⟨_,e,v,.tup ds,none,rfl,hd,λH' s=>⟨_,rfl,k _ s⟩⟩
  | dic=>exact EL ⟨_,e,v,.dic,none,rfl,hd,λH' s=>⟨_,rfl,k _ s⟩⟩
  | da d=>exact EL ⟨_,e,v,.da d,none,rfl,hd,λH' s=>⟨_,rfl,k _ s⟩⟩
theorem OO:∀(L:List DY)(d:DY),Fl (L++[d])=(Fl L && match L.getLast? with
 | none=>true
 | some e=>decide (FV e<FV d))
 | [],d=>rfl
 | [e],d=>by show(decide (FV e<FV d) && true)=(true && decide (FV e<FV d));simp
 | e::f::r,d=>by have ih:=OO (f::r) d;show(decide (FV e<FV f) && Fl (f::r++[d]))=((decide (FV e<FV f) && Fl (f::r)) && _);rw[ih,De,D2]
theorem OA:∀(L M:List DY),Fl (L++M)=true→Fl L=true
 | [],_,_=>rfl
 | [e],_,_=>rfl
 | e::f::r,M,h=>by have h':(decide (FV e<FV f) && Fl (f::r++M))=true:=h;rw[Ah] at h';show(decide (FV e<FV f) && Fl (f::r))=true;rw[h'.1,OA (f::r) M h'.2];rfl
theorem Rv{ds:List DY}(h:Fl (ds.take k)=false):Fl ds=false:=by
 cases c:Fl ds with
 | false=>rfl
 | true=> rw[←BN k ds] at c;rw[OA _ _ c] at h;cases h
def Hm(L:List DY):Int:=match L.getLast? with
 | none=> -1
 | some e=>FV e
theorem R1{L:List DY}(h:L.all Gu=true): -1≤Hm L:=by
 unfold Hm;cases c:L.getLast? with
 | none=>exact Int.le_refl _
 | some e=> obtain⟨i,j,rfl,h1,h2⟩:=KP (Ay.mp h e (C2 c));show -1≤i;omega
theorem R9{L:List DY}{d:DY}{i:Int}(hd:FV d=i)(h:L.all Gu=true)(as:Fl L=true):(Hm L+1≤i)↔(0≤i∧Fl (L++[d])=true):=by
 have g:=R1 h;rw[OO,as,Ax];unfold Hm at g ⊢;cases c:L.getLast? with
 | none=>
  dsimp only;constructor
  · intro z;exact⟨by omega,rfl⟩
  · intro z;omega
 | some e=> dsimp only;obtain⟨i',j,rfl,h1,h2⟩:=KP (Ay.mp h e (C2 c));rw[hd];show i'+1≤i↔_∧decide (i'<i)=true;rw[decide_eq_true_iff];omega
theorem Sl(L:List DY)(d:DY):Hm (L++[d])=FV d:=by unfold Hm;rw[C3];rfl
theorem Ov{ds:List DY}(h2:2≤ds.length):Gn ds=(ds.all Fg && decide ((ds.map F8).Nodup)):=by unfold Gn;rw[decide_eq_true h2];rfl
theorem Rz{ds:List DY}{d:DY}(e:ds[k]?=some d)(h:F8 d∈(ds.take k).map F8):decide ((ds.map F8).Nodup)=false:=by
 refine decide_eq_false λnd=>?_;have:ds.map F8=(ds.take k).map F8++(F8 d::(ds.drop (k+1)).map F8):=by
  have hk:=(Az.mp e).1;have he:=(Az.mp e).2
  conv=>lhs;rw[←BN k ds,List.drop_eq_getElem_cons hk,he]
  rw[Am,AH]
 rw[this,Cj] at nd;exact nd.2.2 _ h _ A6 rfl
theorem Io(w x:Str):decide (V.str w=V.str x)=decide (w=x):=decide_eq_decide.mpr ⟨λz=>by injection z,λz=>by rw[z]⟩
theorem Qt{R:Bool→Hp→Prop}{w y:Str}(e:σ[1]?=some (some (V.str w)))(k:R (decide (w=x) || decide (w=y)) H):Pj (IE (Hf Lu (F6 1) (tC (V.str x)))) (IE (Hf Lu (F6 1) (tC (V.str y)))) σ H R:=by
 refine⟨_,e,rfl,_,rfl,?_⟩;rw[Io];cases c:decide (w=x) with
 | true=>rw[c] at k;exact EL k
 | false=> rw[c,Bool.false_or] at k;refine EK ⟨_,e,rfl,_,rfl,?_⟩;rw[Io];exact k
theorem Q4{R:Bool→Hp→Prop}{w y:Str}(e:σ[1]?=some (some (V.str w)))(k:R (!decide (w=x) && !decide (w=y)) H):IT (IE (Hf Ls (F6 1) (tC (V.str x)))) (IE (Hf Ls (F6 1) (tC (V.str y)))) σ H R:=by
 refine⟨_,e,rfl,_,rfl,?_⟩;rw[Io];cases c:decide (w=x) with
 | true=>rw[c] at k;exact EK k
 | false=> rw[c,Bool.not_false,Ax] at k;refine EL ⟨_,e,rfl,_,rfl,?_⟩;rw[Io];exact k
theorem Q6:∀k<26,("abcdefghijklmnopqrstuvwxyz":Str).cps.toList[k]?=some (97+k):=by decide+kernel
theorem Px{r:Int}(h0:0≤r)(h1:r<26):F_ ("abcdefghijklmnopqrstuvwxyz":Str).cps.toList r=some (97+r.toNat):=by obtain⟨k,rfl⟩:∃k:Nat,r=k:=⟨r.toNat,by omega⟩;exact Ib (Q6 k (by omega))
theorem Ra(h:k<26):FR (97+k)=true:=by unfold FR;rw[decide_eq_true (by omega),decide_eq_true (by omega)];rfl
def HW(m:Nat)(x:Str):Prop:=x.length≤m∧∀c∈x.cps.toList,FR c=true
theorem R0{cs:List Nat}{m:Nat}(h:cs.length≤m)(ok:∀c∈cs,FR c=true):HW m (Txt.join ("":Str) (cs.map λc=>(⟨#[c]⟩:Str))):=by have e:=Pc cs;refine⟨?_,by rw[e];exact ok⟩;show Array.size _≤_;rw[←A3,e];exact h
theorem Q7(ns:List Int):Fk (ns.map V.int) (some (-1)) none=(ns.drop (ns.length - 1)).map V.int:=by
 unfold Fk;have e1:HT.sIx (ns.map V.int).length 0 (some (-1))=ns.length - 1:=by unfold HT.sIx;dsimp only;rw[if_pos (by decide),Ab];omega
 have e2:HT.sIx (ns.map V.int).length (ns.map V.int).length none=ns.length:=by show(ns.map V.int).length=_;rw[Ab]
 rw[e1,e2,List.map_drop];exact As (by rw[AU,Ab];omega)
theorem Rq{ns:List Int}{x:Int}(h:ns.Pairwise (· < ·))(hx:ns=[]∨(ns.drop (ns.length - 1)).sum<x):(ns++[x]).Pairwise (· < ·):=by
 rw[D5];refine⟨h,Dd _ _,λa ha b hb=>?_⟩;rw[Ao.mp hb];rcases hx with rfl | hx
 · simp at ha
 · rcases List.eq_nil_or_concat ns with rfl | ⟨ms,z,rfl⟩
   · simp at ha
   · rw[List.concat_eq_append] at*;have:(ms++[z]).drop ((ms++[z]).length - 1)=[z]:=by
      rw[Ai,Cp,Nat.add_sub_cancel,List.drop_left]
     rw[this] at hx;have hz:z<x:=by simpa using hx
     rw[D5] at h;rcases AC.mp ha with q | q
     · exact Int.lt_trans (h.2.2 a q z (by simp)) hz
     · rw[Ao.mp q];exact hz
def Ir(p:WP):DY:= .tup [.str p.1,eD p.2.1,eD p.2.2]
def Iw(p:PP):DY:= .tup [.str p.1,.int p.2]
theorem HY{o:HO}(h:H a=some o)(n:a≠b):hp b H a=some o:=NV h n n
theorem Ob{H':Hp}(s:Fh b H H'):Same (hp b H) (hp b H'):=QB s
theorem Fy{l:Addr}{n:Int}(B:Pile H b l n)(h:H a=some (.tup xs)):a≠b:=λz=>by obtain⟨_,_,_,_,e1,_⟩:=B.ex;rw[z,e1] at h;cases h
theorem JN(h:FieldOk x):RepY H (.str x) (.str x):=by rw[RepY];exact⟨rfl,AV h.eight (by decide)⟩
theorem HJ(h:FieldOk x):FT x=true:=by unfold FT;rw[decide_eq_true h.one,decide_eq_true h.eight,Ax,Ax];exact Ay.mpr h.all
theorem O0{l:Addr}{n:Int}(B:Pile H b l n):∀us:List (Addr×WP),(∀u∈us,H u.1=some (.tup [.str u.2.1,eV u.2.2.1,eV u.2.2.2])∧FieldOk u.2.1)→RepYs (hp b H) ((us.map (·.2)).map Ir) (us.map λu=>V.ref u.1)
 | [],_=>RepYs.nil
 | u::us,h=>by obtain⟨h1,h2⟩:=h u A6;refine RepYs.cons ?_ (O0 B us λx hx=>h x (A1 _ hx));exact GR (HY h1 (Fy B h1)) (.cons (JN h2) (.cons (Ow _ _) (.cons (Ow _ _) .nil))) (by show 3≤900;decide)
theorem Oz{l:Addr}{n:Int}(B:Pile H b l n):∀us:List (Addr×PP),(∀u∈us,H u.1=some (.tup [.str u.2.1,.int u.2.2])∧FieldOk u.2.1)→RepYs (hp b H) ((us.map (·.2)).map Iw) (us.map λu=>V.ref u.1)
 | [],_=>RepYs.nil
 | u::us,h=>by obtain⟨h1,h2⟩:=h u A6;refine RepYs.cons ?_ (Oz B us λx hx=>h x (A1 _ hx));exact GR (HY h1 (Fy B h1)) (.cons (JN h2) (.cons (by rw[RepY]) .nil)) (by show 2≤900;decide)
theorem Q3{f:WP→DY}{ws:List WP}(hf:∀w,Gy (f w)=some w.1)(h:(ws.map (·.1)).Pairwise GB):E_ (ws.map f)=true:=by
 induction ws with
 | nil=>rfl
 | cons w ws ih=>
  cases ws with
  | nil=>rfl
  | cons v vs=> rw[AH,Cb] at h;show(FA (f w) (f v) && E_ ((v::vs).map f))=true;rw[ih h.2,KD (hf w) (hf v),AZ];exact decide_eq_true (h.1 v.1 (by simp))
theorem PV{f:PP→DY}{ws:List PP}(hf:∀w,Gy (f w)=some w.1)(h:(ws.map (·.1)).Pairwise GB):E_ (ws.map f)=true:=by
 induction ws with
 | nil=>rfl
 | cons w ws ih=>
  cases ws with
  | nil=>rfl
  | cons v vs=> rw[AH,Cb] at h;show(FA (f w) (f v) && E_ ((v::vs).map f))=true;rw[ih h.2,KD (hf w) (hf v),AZ];exact decide_eq_true (h.1 v.1 (by simp))
theorem Of:∀{ds:List DY},(∀d∈ds,EZ d=true)→ID ds=true
 | [],_=>by rw[ID]
 | d::ds,h=>by rw[ID,h d A6,Of λx hx=>h x (A1 _ hx)];rfl
theorem GG{ds:List DY}(hl:ds.length≤100)(h:∀d∈ds,EZ d=true):EZ (.tup ds)=true:=by rw[EZ,Of h,decide_eq_true hl];rfl
theorem N_:∀{ds:List DY},ID ds=true→∀d∈ds,EZ d=true
 | [],_,d,hd=>by simp at hd
 | e::ds,h,d,hd=>by
  rw[ID,Ah] at h;rcases Aq.mp hd with rfl | hd
  · exact h.1
  · exact N_ h.2 d hd
theorem Pd{ds:List DY}(h:EZ (.tup ds)=true):ds.length≤100∧∀d∈ds,EZ d=true:=by rw[EZ,Ah] at h;exact⟨of_decide_eq_true h.1,N_ h.2⟩
theorem NZ(o:Option Int):EZ (eD o)=true:=by cases o<;>(unfold eD;rw[EZ])
theorem NP{p:WP}(h:FieldOk p.1)(le:Jt p.2.1 p.2.2=true):Gg (Ir p)=true∧EZ (Ir p)=true:=by
 obtain⟨f,lo,hi⟩:=p;refine⟨?_,GG (by show 3≤100;decide) λd hd=>?_⟩
 · show(FT f && (Fu (eD lo) && Fu (eD hi) && HR (eD lo) (eD hi)))=true;rw[HJ h,Ax];cases lo<;>cases hi<;>first | rfl | exact le
 · rcases Aq.mp hd with rfl | hd
   · rw[EZ];exact HJ h
   · rcases Aq.mp hd with rfl | hd
     · exact NZ _
     · rw[Ao.mp hd];exact NZ _
theorem NF{p:PP}(h:FieldOk p.1):Gs (Iw p)=true∧EZ (Iw p)=true:=by
 obtain⟨f,n⟩:=p;refine⟨?_,GG (by show 2≤100;decide) λd hd=>?_⟩
 · show(FT f && true)=true;rw[HJ h];rfl
 · rcases Aq.mp hd with rfl | hd
   · rw[EZ];exact HJ h
   · rw[Ao.mp hd,EZ]
theorem Sd{ws:List WP}(hl:ws.length≤3)(h:∀p∈ws,FieldOk p.1∧Jt p.2.1 p.2.2=true)(as:(ws.map (·.1)).Pairwise GB):GF (.tup (ws.map Ir))=true∧EZ (.tup (ws.map Ir))=true:=by
 refine⟨?_,GG (by rw[Ab];omega) λd hd=>?_⟩
 · show((ws.map Ir).all Gg && E_ (ws.map Ir))=true;rw[Q3 (f:=Ir) (λ_=>rfl) as,AZ];refine Ay.mpr λd hd=>?_;obtain⟨p,hp,rfl⟩:=AY.mp hd;exact(NP (h p hp).1 (h p hp).2).1
 · obtain⟨p,hp,rfl⟩:=AY.mp hd;exact(NP (h p hp).1 (h p hp).2).2
theorem RI{ws:List PP}(hl:ws.length≤3)(h:∀p∈ws,FieldOk p.1)(as:(ws.map (·.1)).Pairwise GB):G0 (.tup (ws.map Iw))=true∧EZ (.tup (ws.map Iw))=true:=by
 refine⟨?_,GG (by rw[Ab];omega) λd hd=>?_⟩
 · show((ws.map Iw).all Gs && E_ (ws.map Iw))=true;rw[PV (f:=Iw) (λ_=>rfl) as,AZ];refine Ay.mpr λd hd=>?_;obtain⟨p,hp,rfl⟩:=AY.mp hd;exact(NF (h p hp)).1
 · obtain⟨p,hp,rfl⟩:=AY.mp hd;exact(NF (h p hp)).2
theorem OV:∀{l:List Int},(∀y∈l,0≤y)→0≤l.sum
 | [],_=>by simp
 | y::l,h=>by rw[List.sum_cons];have:=h y A6;have:=OV (l:=l) λz hz=>h z (A1 _ hz);omega
theorem Oo{t:TE}{g:TG}{u:TS}{D:Ends}(h:t σ H λv H'=>g v σ H' (u D)):HL (IS t g) u D σ H:=h
theorem J0{n:Int}(h:n≤10^6):n<2^500:=Int.lt_of_le_of_lt h (by decide)
theorem MZ{D:Ends}(h:D.nx σ H):N1 D σ H:=h
theorem JO{v:V}{Q:St→Hp→Prop}(h:Q (σ.set i (some v)) H):Ky i v σ H Q:=h
theorem Mb{t u:TS}{D:Ends}(M:St→Hp→Prop)(h1:∀Z:St→Hp→Prop,(∀σ' H',M σ' H'→Z σ' H')→t {D with nx:=Z} σ H)(h2:∀σ' H',M σ' H'→u D σ' H'):HL t u D σ H:=h1 (u D) h2
theorem Qg{c:TT}{t u:TS}{D:Ends}(h:∀R:Bool→Hp→Prop,(∀b,R b H)→c σ H R)(k1:t D σ H)(k2:u D σ H):IR c t u D σ H:=h _ λb=>by
 cases b
 · exact EK k2
 · exact EL k1
def He(turn:Int)(x:Str):Option Nat:=if turn%2=0 then x.cps.toList.getLast? else x.cps.toList.head?
theorem KE(x y:Str):(x++y).cps.toList=x.cps.toList++y.cps.toList:=by show(x.cps++y.cps).toList=_;rw[Array.toList_append]
theorem GP(x y:Str):(x++y).length=x.length+y.length:=by show(x.cps++y.cps).size=_;rw[Array.size_append];rfl
theorem SO{y:Str}(hx:HW 7 x){c:Nat}(hy:y=⟨#[c]⟩)(ok:FR c=true):FieldOk (x++y)∧FieldOk (y++x):=by
 subst hy;have l1:((⟨#[c]⟩:Str)).length=1:=rfl;refine⟨⟨by rw[GP,l1];omega,by rw[GP,l1];have:=hx.1;omega,λd hd=>?_⟩,⟨by rw[GP,l1];omega,by rw[GP,l1];have:=hx.1;omega,λd hd=>?_⟩⟩
 · rw[KE] at hd;rcases AC.mp hd with z | z
   · exact hx.2 d z
   · rw[Ao.mp z];exact ok
 · rw[KE] at hd;rcases AC.mp hd with z | z
   · rw[Ao.mp z];exact ok
   · exact hx.2 d z
theorem RQ{turn last:Int}{ts:List Str}(hl:ts.length≤3)(h:∀(j:Nat)x,ts[j]?=some x→He turn x=some (97+((last+9*(j:Int))%26).toNat)):ts.Nodup:=by
 rw[Bh,List.pairwise_iff_getElem];intro i j hi hj hij e;have h1:=h i ts[i] (by simp);have h2:=h j ts[j] (by simp);rw[e,h2] at h1;injection h1 with h1
 have:j=1∧i=0∨j=2∧i=0∨j=2∧i=1:=by omega
 rcases this with⟨rfl,rfl⟩ | ⟨rfl,rfl⟩ | ⟨rfl,rfl⟩<;>omega
theorem Gz{H':Hp}{d:DY}{v:V}(h:RepY (hp b H) d v)(s:Fh b H H'):RepY (hp b H') d v:=RepY.same (Ob s) d h
theorem FZ{H':Hp}{ds:List DY}(h:RepYs (hp b H) ds xs)(s:Fh b H H'):RepYs (hp b H') ds xs:=RepYs.same (Ob s) ds h
theorem IJ{d:DY}{v:V}(h:RepY (hp b H) d v):RepY H d v:=RepY.same (NW b b H) d h
theorem FldsAt.sameP{H':Hp}{fs:List Str}(h:FldsAt H b a fs)(s:Fh b H H'):FldsAt H' b a fs:=⟨s _ _ h.at' h.ne h.ne,h.ne,h.len,h.ok,h.asc⟩
theorem Ii{l t:Addr}{n:Int}{ds:List DY}(B:Pile H b l n)(ht:H t=none)(hs:RepYs (hp b H) ds xs)(hl:xs.length≤900):RepY (hp b (EO H t (.tup xs))) (.tup ds) (.ref t):=
 GR (HY EU (B.free ht).1) (FZ hs (EW ht _).sameB) hl
theorem LG{l t:Addr}{n:Int}{ds:List DY}(B:Pile H b l n)(ht:H t=some (.tup xs))(hs:RepYs (hp b H) ds xs)(hl:xs.length≤900):RepY (hp b H) (.tup ds) (.ref t):=GR (HY ht (Fy B ht)) hs hl
theorem NN{ds:List DY}{v:V}(h:RepY (hp b H) (.tup ds) v):∃a xs,v= .ref a∧H a=some (.tup xs)∧ds.length≤900∧RepYs (hp b H) ds xs:=by rw[RepY] at h;obtain⟨a,xs,e,h1,h2,h3⟩:=h;exact⟨a,xs,e,NW b b H _ _ h1,h2,h3⟩
theorem O5:∀ns:List Int,RepYs H (ns.map DY.int) (ns.map V.int)
 | []=>RepYs.nil
 | n::ns=>RepYs.cons (by rw[RepY]) (O5 ns)
theorem JL(h:x.length≤900):RepY H (.str x) (.str x):=by rw[RepY];exact⟨rfl,h⟩
theorem Ih(i:Int):RepY H (.int i) (.int i):=by rw[RepY]
theorem Ru{ns:List Int}(k:Nat)(hl:2≤ns.length)(h9:ns.length≤100)(pos:∀x∈ns,0≤x)(asc:ns.Pairwise (· < ·)):F9 (.tup ((ns.drop k++ns.take k).map DY.int))=true∧EZ (.tup ((ns.drop k++ns.take k).map DY.int))=true:=by
 have pm:(ns.drop k++ns.take k).Perm ns:=by
  have h1:(ns.drop k++ns.take k).Perm (ns.take k++ns.drop k):=List.perm_append_comm
  rwa [BN] at h1
 refine⟨?_,GG (by rw[Ab,pm.length_eq];exact h9) λd hd=>?_⟩
 · show Gn _=true;rw[Ov (by rw[Ab,pm.length_eq];exact hl),Ah];refine⟨Ay.mpr λd hd=>?_,decide_eq_true ?_⟩
   · obtain⟨i,hi,rfl⟩:=AY.mp hd;exact decide_eq_true (pos i (pm.mem_iff.mp hi))
   · have:((ns.drop k++ns.take k).map DY.int).map F8=ns.drop k++ns.take k:=by rw[List.map_map];exact List.map_id _
     rw[this];exact pm.nodup_iff.mpr (asc.imp λh=>Int.ne_of_lt h)
 · obtain⟨i,hi,rfl⟩:=AY.mp hd;rw[EZ]
def IX(p:Int×Int):DY:= .tup [.int p.1,.int p.2]
theorem Oy{l:Addr}{n:Int}(B:Pile H b l n):∀us:List (Addr×Int×Int),(∀u∈us,H u.1=some (.tup [.int u.2.1,.int u.2.2]))→RepYs (hp b H) ((us.map (·.2)).map IX) (us.map λu=>V.ref u.1)
 | [],_=>RepYs.nil
 | u::us,h=>by have h1:=h u A6;refine RepYs.cons ?_ (Oy B us λx hx=>h x (A1 _ hx));exact GR (HY h1 (Fy B h1)) (.cons (Ih _) (.cons (Ih _) .nil)) (by show 2≤900;decide)
theorem RB{ps:List (Int×Int)}(hl:ps.length≤100)(h:∀p∈ps,0≤p.1∧0≤p.2)(as:(ps.map (·.1)).Pairwise (· < ·)):GS (.tup (ps.map IX))=true∧EZ (.tup (ps.map IX))=true:=by
 refine⟨?_,GG (by rw[Ab];exact hl) λd hd=>?_⟩
 · show((ps.map IX).all Gu && Fl (ps.map IX))=true;rw[Ah];refine⟨Ay.mpr λd hd=>?_,?_⟩
   · obtain⟨p,hp,rfl⟩:=AY.mp hd;show(decide (0≤p.1) && decide (0≤p.2))=true;rw[decide_eq_true (h p hp).1,decide_eq_true (h p hp).2];rfl
   · clear h hl
     induction ps with
     | nil=>rfl
     | cons w ps ih=>
      cases ps with
      | nil=>rfl
      | cons v vs=> rw[AH,Cb] at as;show(decide (w.1<v.1) && Fl ((v::vs).map IX))=true;rw[ih as.2,AZ];exact decide_eq_true (as.1 v.1 (by simp))
 · obtain⟨p,hp,rfl⟩:=AY.mp hd;exact GG (by show 2≤100;decide) λe he=>by
    rcases Aq.mp he with rfl | he
    · rw[EZ]
    · rw[Ao.mp he,EZ]
theorem Hu{ds:List DY}(h:RepYs H ds xs)(lo hi:Option Int):∃ds',RepYs H ds' (Fk xs lo hi)∧ds'.length≤ds.length:=by unfold Fk;refine⟨_,(h.drop _).take _,?_⟩;rw[A4,AU];omega
theorem OL(h:EZ (.str x)=true):FieldOk x:=by rw[EZ] at h;have hp:=O_ h;unfold FT at h;rw[Ah] at h;exact⟨hp.1,hp.2,Ay.mp h.2⟩
def GC:Expr→Option DY
 | .Constant .none _ _=>some .non
 | .Constant (.bool b) _ _=>some (.bl b)
 | .Constant (.int i) _ _=>some (.int i)
 | .Constant (.str x) _ _=>if x.length≤900 then some (.str x) else none
 | .UnaryOp .USub (.Constant (.int i) _ _) _=>some (.int (-i))
 | _=>none
def Hn(f:Expr→Option DY):List Expr→Option (List DY)
 | []=>some []
 | e::es=>match f e,Hn f es with
  | some d,some ds=>some (d::ds)
  | _,_=>none
def HQ:Expr→Option DY
 | .Tuple es _ _=>(Hn GC es).bind λds=>if ds.length≤900 then some (.tup ds) else none
 | .List es _=>(Hn GC es).bind λds=>if ds.length≤900 then some (.lst ds) else none
 | .Dict [] [] _=>some .dic
 | e=>GC e
def IQ(d:DY):TE:=λ_ H Q=>∀v H',Same H H'→RepY (nw H H') d v→Q v H'
def Jl(ds:List DY):TA:=λ_ H Q=>∀vs H',Same H H'→RepYs (nw H H') ds vs→Q vs H'
theorem LL{d:DY}(h:GC e=some d):PE X e (IQ d)∧∀es,Av (e::es) X.env=(false,eval e X.env)::Av es X.env:=by
 unfold GC at h
 split at h
 · cases h;exact⟨λpins s σ H Q I k=>Im pins s σ H Q I (k _ _ (Same.refl _) (by rw[RepY])),λes=>rfl⟩
 · cases h;exact⟨λpins s σ H Q I k=>Fv pins s σ H Q I (k _ _ (Same.refl _) (by rw[RepY])),λes=>rfl⟩
 · cases h;exact⟨λpins s σ H Q I k=>EN pins s σ H Q I (k _ _ (Same.refl _) (by rw[RepY])),λes=>rfl⟩
 · split at h
   · rename_i hl;cases h;exact⟨λpins s σ H Q I k=>Gm pins s σ H Q I (k _ _ (Same.refl _) (JL hl)),λes=>rfl⟩
   · cases h
 · cases h;exact⟨λpins s σ H Q I k=>JC JD EN pins s σ H Q I ⟨_,rfl,k _ _ (Same.refl _) (Ih _)⟩,λes=>rfl⟩
 · cases h
theorem KG{f:Expr→Option DY}(hf:∀e d,f e=some d→PE X e (IQ d)∧∀es,Av (e::es) X.env=(false,eval e X.env)::Av es X.env):∀{es:List Expr}{ds:List DY},Hn f es=some ds→PA X es (Jl ds)
 | [],ds,h=>by cases h;exact λpos pins s σ H Q I k=>EM pos pins s σ H Q I (k _ _ (Same.refl _) .nil)
 | e::es,ds,h=>by
  unfold Hn at h;cases h1:f e with
  | none=>rw[h1] at h;cases h
  | some d=>
   cases h2:Hn f es with
   | none=>rw[h1,h2] at h;cases h
   | some ds'=> rw[h1,h2] at h;cases h;obtain⟨p1,p2⟩:=hf e d h1;intro pos pins s σ H Q I k;refine EJ p1 (KG hf h2) (p2 es) pos pins s σ H Q I λv H1 s1 r1 vs H2 s2 r2=>k _ _ (s1.trans s2) (.cons (RepY.same (LI s2) _ r1) (RepYs.same (QU s1.back) _ r2))
theorem QD{d:DY}(h:HQ e=some d):PE X e (IQ d)∧∀es,Av (e::es) X.env=(false,eval e X.env)::Av es X.env:=by
 unfold HQ at h
 split at h
 · cases h1:Hn GC _ with
   | none=>rw[h1] at h;cases h
   | some ds=>
    rw[h1] at h;dsimp only[Option.bind] at h
    split at h
    · rename_i hl;cases h;refine⟨λpins s σ H Q I k=>FW (KG (λe d h=>LL h) h1) pins s σ H Q I λvs H1 s1 r1=>?_,λes=>rfl⟩;have lv:=r1.length;refine⟨FH (by omega),λp hp=>k _ _ (s1.trans (EW hp _)) ?_⟩;exact GR (JA (s1.free hp) EU) (RepYs.same (LI (EW hp _)) _ r1) (by omega)
    · cases h
 · cases h1:Hn GC _ with
   | none=>rw[h1] at h;cases h
   | some ds=>
    rw[h1] at h;dsimp only[Option.bind] at h
    split at h
    · rename_i hl;cases h;refine⟨λpins s σ H Q I k=>Gk (KG (λe d h=>LL h) h1) pins s σ H Q I λvs H1 s1 r1=>?_,λes=>rfl⟩;have lv:=r1.length;refine⟨FH (by omega),λp hp=>k _ _ (s1.trans (EW hp _)) ?_⟩;exact Ox (JA (s1.free hp) EU) (RepYs.same (LI (EW hp _)) _ r1) (by omega)
    · cases h
 · cases h;refine⟨λpins s σ H Q I k=>Rk pins s σ H Q I λp hp=>k _ _ (EW hp _) ?_,λes=>rfl⟩;rw[RepY];exact⟨p,rfl,JA hp EU⟩
 · exact LL h
theorem QE{es:List Expr}{ds:List DY}(h:Hn HQ es=some ds):PE X (.List es pos) (G9 (Jl ds)):=Gk (KG (λe d h=>QD h) h)
def JS:Stmt→Expr
 | .Assign _ (.BinOp _ _ r _) _=>r
 | _=> .Constant .none 0 ⟨0,0,0,0⟩
def J_:Stmt→Expr→Stmt
 | .Assign ts (.BinOp l o _ p) c,e=> .Assign ts (.BinOp l o e p) c
 | s,_=>s
theorem Op{c:Bool}{tc:TT}{t u v:TS}{D:Ends}(h:∀R:Bool→Hp→Prop,R c H→tc σ H R)(k:if c=true then t {D with nx:=v D} σ H else u {D with nx:=v D} σ H):HL (IR tc t u) v D σ H:=h _ k
def Kq:Expr→List Expr
 | .List es _=>es
 | _=>[]
def Qv:Expr→Pos
 | .List _ p=>p
 | _=>⟨0,0,0,0⟩
theorem LM{ds:List DY}(h1:e= .List (Kq e) (Qv e))(h2:Hn HQ (Kq e)=some ds):PE X e (G9 (Jl ds)):=by rw[h1];exact QE h2
end L2
set_option maxHeartbeats 4000000
namespace K30
open PySem PySem.Spec PyProof.Rows L2
theorem Po{α:Type}{l:List (Addr×α)}{x:V}(h:(l.map λy=>V.ref y.1)[i]?=some x):∃y,l[i]?=some y∧x=V.ref y.1:=by
 rw[A5] at h;cases e:l[i]? with
 | none=>rw[e] at h;cases h
 | some y=>rw[e] at h;exact⟨y,rfl,(A2 h).symm⟩
def top(i:Nat):Stmt:=PySem.Challenge.pw_newsways_k30_what_is_a_letter.main.body.getD i (.Pass ⟨0,0,0,0⟩)
abbrev Mo:Stmt:=top 1
abbrev Ma:Stmt:=top 2
abbrev Mg:Stmt:=top 3
abbrev KS:Stmt:=top 6
abbrev Mz:Stmt:=top 7
abbrev M6:Stmt:=top 8
abbrev Ld:Stmt:=top 9
abbrev KZ:Stmt:=top 10
abbrev KT:Stmt:=top 11
abbrev Mf:Stmt:=top 13
abbrev Mu:Stmt:=top 15
abbrev KN:Stmt:=top 16
abbrev KY:Stmt:=top 17
abbrev JR:Stmt:=top 18
abbrev Mw:Stmt:=top 19
abbrev Lj:Stmt:=top 20
abbrev MC:Stmt:=top 21
abbrev MB:Stmt:=top 22
abbrev M9:Stmt:=top 23
abbrev MA:Stmt:=top 24
abbrev Li:Stmt:=top 14
abbrev Mp:Stmt:=top 27
abbrev Mr:Stmt:=top 28
abbrev Le:Stmt:=top 29
abbrev Mj:Stmt:=top 30
abbrev Ms:Stmt:=top 31
abbrev Mh:Stmt:=top 32
abbrev Mk:Stmt:=top 33
abbrev Mq:Stmt:=top 34
abbrev Mt:Stmt:=top 35
abbrev Lh:Stmt:=top 36
abbrev Hd:Stmt:=top 37
abbrev Mv:Stmt:=top 38
abbrev Ml:Stmt:=top 39
abbrev M0:Stmt:=top 40
abbrev Lc:Stmt:=top 41
abbrev Mx:Stmt:=top 42
abbrev My:Stmt:=top 43
abbrev Lb:Stmt:=top 44
abbrev Lg:Stmt:=top 45
abbrev La:Stmt:=top 46
abbrev M7:Stmt:=top 47
abbrev Mi:Stmt:=top 48
abbrev IC:Stmt:=top 49
abbrev Hk:Int:=10000000000000000000000000000000000000000
theorem TZ:(10:Int)^(40:Int).toNat=Hk:=by decide
theorem T_:(10:Int)^(15:Int).toNat=1000000000000000:=by decide
def MK:Sp:=λvs H Q _=>∃(b g l:Addr)(n:Int),vs=[.ref b]∧Bag H b g l n∧n≤10^9∧∀(r:Int)(H':Hp), -Hk<r→r<Hk→Bag H' b g l (n+3)→SameB b g H H'→Q (.int r) H'
def Pr(o:Option Int):Prop:=∀i,o=some i→i.natAbs<10^60
def Ln:Sp:=λvs H Q _=>∃(b g l:Addr)(n:Int),vs=[.ref b]∧Bag H b g l n∧n≤10^8∧∀(a:Addr)(lo hi:Option Int)(H':Hp),H a=none→H' a=some (.tup [eV lo,eV hi])→Pr lo→Pr hi→Bag H' b g l (n+8)→SameB b g H H'→Q (.ref a) H'
def I_(m:Nat):Int:=5*4^m
theorem L0(m:Nat):5≤I_ m:=by unfold I_;have:(0:Int)<4^m:=Int.pow_pos (by decide);omega
theorem Kr(m:Nat):I_ (m+1)=4*I_ m:=by unfold I_;rw[Int.pow_succ];omega
def Pn(m:Nat):Sp:=λvs H Q _=>∃(b g l:Addr)(n:Int),vs=[.ref b,.int (m:Int)]∧Bag H b g l n∧n+I_ m≤10^8∧∀(v:V)(d:DY)(H':Hp),RepY (nw H H') d v→GZ d≤2*m→Hz d≤3→Bag H' b g l (n+I_ m)→SameB b g H H'→Q v H'
def MN(m:Nat):Sp:=λvs H Q _=>∃(v:V)(d:DY),vs=[v]∧RepY H d v∧GZ d≤m∧∀(v':V)(H':Hp),RepY (nw H H') d v'→Same H H'→Q v' H'
def Lo(m:Nat):Sp:=λvs H Q _=>∃(v v':V)(d:DY),vs=[v,v']∧m≤9∧RepY H d v∧RepY H d v'∧GZ d≤m∧∀H',Same H H'→Q (.bl true) H'
def MM:Sp:=λvs H Q _=>∃(b g l:Addr)(n most:Int),vs=[.ref b,.int most]∧Bag H b g l n∧n≤10^7∧0≤most∧most≤20∧
 ∀(r:Addr)(fs:List Str)(H':Hp),H r=none→H' r=some (.lst (fs.map V.str))→fs.Pairwise GB→(∀f∈fs,FieldOk f)→(fs.length:Int)≤most→Bag H' b g l (n+300)→SameB b g H H'→Q (.ref r) H'
def Lp:Sp:=λvs H Q _=>∃(v1 v2:V)(d1 d2:DY),vs=[v1,v2]∧RepY H d1 v1∧RepY H d2 v2∧∀H',Same H H'→Q (.bl (Fu d1 && Fu d2 && HR d1 d2)) H'
def P8(k:Int)(d:DY):Bool:=if k=3 then Gg d else Gs d
def L8(k:Int):DY→Bool
 | .tup ds=>ds.all (P8 k) && E_ ds
 | _=>false
theorem Pp(d:DY):L8 3 d=GF d:=by cases d<;>rfl
theorem Pq(d:DY):L8 2 d=G0 d:=by cases d<;>rfl
def ML:Sp:=λvs H Q _=>∃(v:V)(d:DY)(k:Int),vs=[v,.int k]∧(k=2∨k=3)∧RepY H d v∧∀H',Same H H'→Q (.bl (L8 k d)) H'
def IM(m:Nat)(d:DY):Prop:=GZ d≤4∧Hz d≤m
def Lq:Sp:=λvs H Q _=>∃(b g l:Addr)(n:Int),vs=[.ref b]∧Bag H b g l n∧n≤10^6∧∀(v:V)(ds:List DY)(H':Hp),RepY (hs (Lr b g) H') (.tup ds) v→ds.length≤20→(∀d∈ds,IM 20 d)→Bag H' b g l (n+700)→SameB b g H H'→Q v H'
def MJ:Sp:=λvs H Q _=>∃(b g l:Addr)(n:Int)(x:Str),vs=[.ref b,.str x]∧Bag H b g l n∧n≤10^7∧x.length≤400∧∀(v:V)(d:DY)(H':Hp),RepY (nw H H') d v→GZ d≤2→Hz d≤2*x.length+20→Bag H' b g l (n+30)→SameB b g H H'→Q v H'
theorem Js{f:Str}{lo hi:Option Int}(h:f.length≤8):IM 20 (.tup [.str f,eD lo,eD hi]):=by
 refine⟨?_,?_⟩
 · rw[GZ,Hx,Hx,Hx,Hx,OF,OF];show max 0 _+1≤4;decide
 · have z:∀o:Option Int,Hz (eD o)=0:=λo=>by cases o<;>rfl
   rw[Hz,Gp,Gp,Gp,Gp,Hz,z,z];show max 3 _≤20;omega
theorem IW{f:Str}{n:Int}(h:f.length≤8):IM 20 (.tup [.str f,.int n]):=by
 refine⟨?_,?_⟩
 · rw[GZ,Hx,Hx,Hx];show max 0 (max 0 0)+1≤4;decide
 · rw[Hz,Gp,Gp,Gp,Hz];show max 2 (max f.length (max 0 0))≤20;omega
def Pl:Sp:=λvs H Q _=>∃(b g l:Addr)(n:Int)(S:Addr→Bool)(v:V)(es:List DY)(m:Nat),vs=[.ref b,v]∧Bag H b g l n∧n≤5000000∧S b=true∧S g=true∧Uc S H∧RepY (hs S H) (.tup es) v∧IM m (.tup es)∧m≤140∧∀(v':V)(d':DY)(H':Hp),RepY (hs S H') d' v'→IM (2*m+20) d'→Bag H' b g l (n+60)→SameB b g H H'→Q v' H'
def Pm:Sp:=λvs H Q _=>∃(b g l:Addr)(n:Int)(v:V)(ds:List DY)(m:Nat),vs=[.ref b,v]∧Bag H b g l n∧n≤10^6∧RepY (hs (Lr b g) H) (.tup ds) v∧ds.length≤m∧(∀d∈ds,IM m d)∧m≤140∧∀(v':V)(ds':List DY)(H':Hp),RepY (hs (Lr b g) H') (.tup ds') v'→ds'.length≤2*m+20→(∀d∈ds',IM (2*m+20) d)→Bag H' b g l (n+100)→SameB b g H H'→Q v' H'
theorem Lw{α:Type}{l:List α}{x:α}{j:Nat}(h:x∈l.take i++l.drop j):x∈l:=by
 rcases AC.mp h with h | h
 · exact List.mem_of_mem_take h
 · exact D6 h
theorem Lx{α:Type}(l:List α)(i:Nat):(l.take i++l.drop (i+1)).length≤l.length:=by rw[Ai,A4,AU];omega
theorem Oc(K:Ad)(d:DY):Ce K (.type (Lk d)) (.type "str")=some (K0 d):=by cases d<;>rfl
theorem Lz(K:Ad)(d:DY):Ce K (.type (Lk d)) (.type "tuple")=some (N5 d):=by cases d<;>rfl
theorem Pb{d:DY}(h:K0 d=true):∃x,d= .str x:=by
 cases d with
 | str x=>exact⟨x,rfl⟩
 | _=>cases h
theorem IZ{d:DY}(h:N5 d=true):∃x,d= .tup x:=by
 cases d with
 | tup x=>exact⟨x,rfl⟩
 | _=>cases h
def JW:Sp:=λvs H Q _=>∃(b g l:Addr)(n:Int),vs=[.ref b]∧Bag H b g l n∧n≤10^5∧∀(v:V)(d:DY)(H':Hp),RepY (hs (Lr b g) H') d v→GZ d≤6→Bag H' b g l (n+1200)→SameB b g H H'→Q v H'
def JY:Sp:=λvs H Q _=>∃(v:V)(d:DY)(t:Int),vs=[v,.int t]∧(t=0∨t=1)∧RepY H d v∧∀H',Same H H'→Q (.bl true) H'
def mS:Nat→Nat
 | 0=>20
 | i+1=>2*mS i+20
section
variable{mg:Str→Option Value}{base:Heap}
theorem Ft{N P:List Str}{sc:Scope}(h1:sc.kind= .function:=by rfl)(h2:sc.isCoroutine=false:=by rfl)(h3:sc.isGenerator=false:=by rfl)(h4:N.Nodup:=by decide+kernel)(h5:N.take P.length=P:=by rfl)(h6:∀x∈P,sc.names.lookup x=some .local∨sc.names.lookup x=some .cell:=by decide+kernel)(h7:∀y∈sc.names,y.2≠ .free:=by decide+kernel):FnScope N P sc:=⟨h1,h2,h3,h4,h5,h6,h7⟩
theorem SG:FnScope ["thing"] ["thing"] (Fa Mo):=Ft
theorem Sq:FnScope ["thing"] ["thing"] (Fa Ma):=Ft
theorem DB:FnScope ["thing","low","high"] ["thing"] (Fa Mg):=Ft
theorem SE:FnScope ["thing"] ["thing"] (Fa KS):=Ft
theorem DC:FnScope ["thing","field","low","high"] ["thing"] (Fa Mz):=Ft
theorem DD:FnScope ["thing","field","number"] ["thing"] (Fa M6):=Ft
theorem TR:FnScope ["parts"] ["parts"] (Fa Ld):=Ft
theorem RP:FnScope ["thing"] ["thing"] (Fa KZ):=Ft
theorem SF:FnScope ["thing"] ["thing"] (Fa KT):=Ft
theorem RO:FnScope ["thing"] ["thing"] (Fa Mf):=Ft
theorem TQ:FnScope ["thing"] ["thing"] (Fa Mu):=Ft
theorem RV:FnScope ["thing"] ["thing"] (Fa KN):=Ft
theorem RN:FnScope ["thing"] ["thing"] (Fa KY):=Ft
theorem Tk:FnScope ["thing"] ["thing"] (Fa JR):=Ft
theorem TK:FnScope ["thing"] ["thing"] (Fa Mw):=Ft
theorem TU:FnScope ["thing"] ["thing"] (Fa Lj):=Ft
theorem TC:FnScope ["rest"] ["rest"] (Fa MC):=Ft
theorem TB:FnScope ["rest"] ["rest"] (Fa MB):=Ft
theorem T8:FnScope ["rest"] ["rest"] (Fa M9):=Ft
theorem T9:FnScope ["rest"] ["rest"] (Fa MA):=Ft
theorem DE:FnScope ["thing","form"] ["thing"] (Fa Li):=Ft
theorem SH:FnScope ["script"] ["script"] (Fa Mp):=Ft
theorem DF:FnScope ["pile","many","digit","cell","mixed"] ["pile","many"] (Fa Mr):=Ft
theorem DG:FnScope ["pile","many","letters","last","turn","found","head","k","size","sign"] ["pile","many"] (Fa Le):=Ft
theorem DH:FnScope ["pile","far"] ["pile"] (Fa Mj):=Ft
theorem DI:FnScope ["pile","fields","wish","field","sort","one","other","spans"] ["pile","fields"] (Fa Ms):=Ft
theorem DJ:FnScope ["pile","fields","piece","field"] ["pile","fields"] (Fa Mh):=Ft
theorem DK:FnScope ["pile","many","found","k","far"] ["pile","many"] (Fa Mk):=Ft
theorem SI:FnScope ["pile","few"] ["pile","few"] (Fa Mq):=Ft
theorem Tl:FnScope ["pile"] ["pile"] (Fa Mt):=Ft
theorem DL:FnScope ["pile","word","name","fields","posts","at","marks","pieces","k","teller","number"] ["pile","word","name","fields"] (Fa Lh):=Ft
theorem DM:FnScope ["pile","some"] ["pile"] (Fa Hd):=Ft
theorem DN:FnScope ["pile","thing","sort","at","some","texts"] ["pile","thing"] (Fa Mv):=Ft
theorem DO:FnScope ["pile","thing","deep","at","part"] ["pile","thing","deep"] (Fa Ml):=Ft
theorem Tu:FnScope ["thing","least"] ["thing","least"] (Fa M0):=Ft
theorem TF:FnScope ["thing"] ["thing"] (Fa Lc):=Ft
theorem DP:FnScope ["thing","size","last","row"] ["thing","size"] (Fa Mx):=Ft
theorem DQ:FnScope ["thing","field","low","high"] ["thing"] (Fa My):=Ft
theorem TD:FnScope ["thing"] ["thing"] (Fa Lb):=Ft
theorem DR:FnScope ["thing","k"] ["thing"] (Fa Lg):=Ft
theorem DS:FnScope ["marks","pieces","last","mark"] ["marks","pieces"] (Fa La):=Ft
theorem DT:FnScope ["thing","word"] ["thing"] (Fa M7):=Ft
theorem Tn:FnScope ["found","due"] ["found","due"] (Fa Mi):=Ft
theorem DU:FnScope ["script","pile","name","fields","word","letter","turn","thing","due","at","sign","texts"] ["script"] (Fa IC):=Ft
section
variable(P:A_)(w:World)(K:Ad)(mg:Str→Option Value)(base:Heap)
abbrev Γ0:=Fn P w K mg base 1 "is_whole" ["thing"] (Ot K)
abbrev Γ1:=Fn P w K mg base 2 "is_end" ["thing"] (Nv K)
abbrev Γ3:=Fn P w K mg base 1 "is_field" ["thing"] (F5 FK)
abbrev Γ2:=Fn P w K mg base 3 "is_span" ["thing"] (O6 K)
abbrev Γ6:=Fn P w K mg base 1 "fields_ascend" ["parts"] (LQ (λds=>∀d∈ds,(Gy d).isSome=true) E_)
abbrev Γ4:=Fn P w K mg base 4 "is_wish_part" ["thing"] (F5 Gg)
abbrev Γ5:=Fn P w K mg base 2 "is_piece_part" ["thing"] (F5 Gs)
abbrev Γ10:=Fn P w K mg base 2 "is_from_nought" ["thing"] (F5 Fg)
abbrev Γ12:=Fn P w K mg base 3 "is_mark" ["thing"] (F5 Gu)
abbrev Γ8:=Fn P w K mg base 3 "is_piece" ["thing"] (F5 G0)
abbrev Γ14:=Fn P w K mg base 4 "is_numbered_piece" ["thing"] (F5 HB)
abbrev Γ7:=Fn P w K mg base 5 "is_wish" ["thing"] (F5 GF)
abbrev Γ9:=Fn P w K mg base 2 "is_name" ["thing"] (F5 FK)
abbrev Γ11:=Fn P w K mg base 3 "is_way" ["thing"] (F5 F9)
abbrev Γ18:=Fn P w K mg base 4 "behind_here" ["rest"] (Ha GY)
abbrev Γ13:=Fn P w K mg base 4 "are_marks" ["thing"] (F5 GS)
abbrev Γ15:=Fn P w K mg base 5 "are_numbered_pieces" ["thing"] (F5 GA)
abbrev Γ16:=Fn P w K mg base 6 "behind_want" ["rest"] (Ha Hr)
abbrev Γ17:=Fn P w K mg base 5 "behind_news" ["rest"] (Ha GI)
abbrev Γ19:=Fn P w K mg base 6 "behind_kept" ["rest"] (Ha HD)
abbrev Γ22:=Fn P w K mg base 1 "_law_take" ["pile","many"] (JV)
abbrev Γ24:=Fn P w K mg base 2 "_law_number" ["pile"] (JZ)
abbrev Γ27:=Fn P w K mg base 2 "_law_rising" ["pile","many"] (Nx)
abbrev Γ28:=Fn P w K mg base 2 "_law_size" ["pile","few"] (JX)
abbrev Γ25:=Fn P w K mg base 3 "_law_wish" ["pile","fields"] (KC GF)
abbrev Γ29:=Fn P w K mg base 2 "_law_count" ["pile"] (Nu)
abbrev Γ26:=Fn P w K mg base 3 "_law_piece" ["pile","fields"] (KC G0)
abbrev Γ31:=Fn P w K mg base 2 "_law_odd" ["pile"] (IV)
abbrev Γ32:=Fn P w K mg base 3 "_law_spoilt_end" ["pile","thing"] (L6)
abbrev Γ35:=Fn P w K mg base 1 "_law_is_text" ["thing"] (F5 FK)
abbrev Γ36:=Fn P w K mg base 2 "_law_is_rows" ["thing","size"] (NK)
abbrev Γ34:=Fn P w K mg base 1 "_law_is_whole" ["thing","least"] (IU)
abbrev Γ38:=Fn P w K mg base 3 "_law_is_news" ["thing"] (Ha GI)
abbrev Γ40:=Fn P w K mg base 4 "_law_is_kept" ["marks","pieces"] (NI)
abbrev Γ37:=Fn P w K mg base 3 "_law_is_wish" ["thing"] (F5 GF)
abbrev Γ39:=Fn P w K mg base 2 "_law_is_way" ["thing"] (F5 F9)
abbrev Γ21:=Fn P w K mg base 1 "_law_pile" ["script"] (NJ K)
abbrev Γ23:=Fn P w K mg base 2 "_law_texts" ["pile","many"] (Ny)
abbrev Γ42:=Fn P w K mg base 1 "_law_right" ["found","due"] (Os)
abbrev Γ30:=Fn P w K mg base 4 "_law_letter" ["pile","word","name","fields"] (Nw)
abbrev Γ33:=Fn P w K mg base 11 "_law_spoilt" ["pile","thing","deep"] (LF 6 L7)
abbrev Γ41:=Fn P w K mg base 5 "_law_is_letter" ["thing"] (F5 Ic)
abbrev Γ20:=Fn P w K mg base 7 "is_letter" ["thing"] (F5 Ic)
end
theorem HC:0≤Ak:=by decide
theorem IB:1≤Ak:=by decide
theorem Jx:4≤Ak:=by decide
theorem Kx:5≤Ak:=by decide
theorem zq6:6≤Ak:=by decide
theorem zq8:8≤Ak:=by decide
theorem Kn:Bh (["sign"]:List Str):=by decide+kernel
theorem HP:Bh (["ahead","behind"]:List Str):=by decide+kernel
theorem Kk:Bh (["part"]:List Str):=by decide+kernel
theorem Ng:Bh (["post"]:List Str):=by decide+kernel
theorem Nf:Bh (["number"]:List Str):=by decide+kernel
theorem Nd:Bh (["mark"]:List Str):=by decide+kernel
theorem Nc:Bh (["numbered"]:List Str):=by decide+kernel
theorem Nb:Bh (["sign","pile","letters"]:List Str):=by decide+kernel
theorem Na:Bh (["teller","pile"]:List Str):=by decide+kernel
theorem M_:Bh (["row"]:List Str):=by decide+kernel
theorem Km:Bh (["one","thing","k"]:List Str):=by decide+kernel
theorem Kl:Bh (["one"]:List Str):=by decide+kernel
theorem G6:2≤Ak:=by decide
theorem Jy:3≤Ak:=by decide
variable{f:Addr}{fd:AJ}(B:Bl mg){aF fw fn fh fk:Addr}(Fo:Forms K w mg aF fw fn fh fk)(qF':mg "FORMS"=some (.ref aF)){tML':Tok}(qML':mg "MOST_LETTERS"=some (.int 8 tML'))
include B Fo qF' qML'
theorem Sv(F:Fun K "is_whole" "is_whole" Mo f fd)  :FnOk P w K mg base Fe 1 f fd ["thing"] (Ot K):=by
 refine F.ok SG (λvs H Q E h=>?_) (λcdv A outer s H vs Q E hr h=>?_)
 · obtain⟨v,t,rfl,hty,q⟩:=h;rfl
 obtain⟨v,t,rfl,hty,q⟩:=h;refine⟨_,(ES (EV (Ge (Fb (FD (n:="")) rfl B.isinstance_ FE (EJ (pv 0) (EJ (FG (v:= .ty "int") rfl B.int_ JJ rfl) EM))) (Gr (NC (Fb (FD (n:="")) rfl B.isinstance_ FE (EJ (pv 0) (EJ (FG (v:= .ty "bool") rfl B.bool_ LU rfl) EM)))))))),?_⟩;cases hty
 all_goals first
  | exact⟨_,rfl,_,"int","int",true,rfl,.int _,rfl,_,rfl,EL ⟨_,rfl,_,"int","bool",false,rfl,.int _,rfl,_,rfl,q⟩⟩
  | exact⟨_,rfl,_,"bool","int",true,rfl,.bl _,rfl,_,rfl,EL ⟨_,rfl,_,"bool","bool",true,rfl,.bl _,rfl,_,rfl,q⟩⟩
  | exact⟨_,rfl,_,_,"int",false,rfl,(by first | exact .non | exact .str _ | exact .flt _ | (exact .lst (by assumption)) | (exact .frz (by assumption)) | (exact .tup (by assumption)) | (exact .dK (by assumption)) | (exact .dT (by assumption))),rfl,_,rfl,EK q⟩
theorem Rf(F:Fun K "is_end" "is_end" Ma f fd)(DV:Γ0 P w K mg base):FnOk P w K mg base Fe 2 f fd ["thing"] (Nv K):=by
 refine F.ok Sq (λvs H Q E h=>?_) (λcdv A outer s H vs Q E hr h=>?_)
 · obtain⟨v,t,rfl,hty,q⟩:=h;rfl
 obtain⟨v,t,rfl,hty,q⟩:=h;refine⟨_,(ES (EV (JB (K9 (K8 (pv 0))) (Gr (ET DV (hr.mono (by decide)) rfl (EJ (pv 0) EM)))))),?_⟩;refine⟨_,rfl,_,rfl,?_⟩;cases hty
 case non=>exact EL q
 all_goals refine EK ?_
 case int i=>exact⟨_,rfl,_,_,rfl,.int _,q⟩
 all_goals exact⟨_,rfl,_,_,rfl,(by first | exact .bl _ | exact .str _ | exact .flt _ | (exact .lst (by assumption)) | (exact .frz (by assumption)) | (exact .tup (by assumption)) | (exact .dK (by assumption)) | (exact .dT (by assumption))),q⟩
theorem RE(F:Fun K "is_span" "is_span" Mg f fd)(DW:Γ1 P w K mg base):FnOk P w K mg base Fe 3 f fd ["thing"] (O6 K):=by
 refine F.ok DB (λvs H Q E h=>?_) (λcdv A outer s H vs Q E hr h=>?_)
 · obtain⟨v,t,rfl,hty,hp,q⟩:=h;rfl
 obtain⟨v,t,rfl,hty,hp,q⟩:=h;refine⟨_,(EQ (Fj (PW.pt (FJ (Fp (Fm (Fb (FD (n:="")) rfl B.isinstance_ FE (EJ (pv 0) (EJ (FG (v:= .ty "tuple") rfl B.tuple_ Gc rfl) EM))))) (Gf (Fq HE (Fb Gj rfl B.len_ FP (EJ (pv 0) EM)) EN (Fd _))))) (ES (EV Fv)) Fi)
  (EQ (II (pv 0) (JG rfl (GH (Fw (i:=1) DB.nd rfl (Or.inl rfl)) (GH (Fw (i:=2) DB.nd rfl (Or.inl rfl)) Jo))))
  (EQ (Fj (PW.pt (FJ (Fp (Fm (ET DW (hr.mono (by decide)) rfl (EJ (pv 1) EM)))) (Gf (Fp (Fm (ET DW (hr.mono (by decide)) rfl (EJ (pv 2) EM))))))) (ES (EV Fv)) Fi)
  (ES (EV (JB (K9 (K8 (pv 1))) (JB (K9 (K8 (pv 2))) (Gr (Gw LA (pv 1) (pv 2) (Fd _)))))))))),?_⟩
 have q0:G3 H v=false→Q (.bl false) H:=λh=>by rw[←h];exact q
 cases hty
 case tup a xs e=>
  refine⟨_,rfl,_,"tuple","tuple",true,rfl,.tup e,rfl,_,rfl,EK ⟨_,rfl,a,_,rfl,.inr (SqT.of e),rfl,_,rfl,?_⟩⟩;by_cases hl:xs.length=2
  · match xs,hl with
    | [x,y],_=>
     refine EK ⟨_,rfl,a,_,rfl,SqT.of e,rfl,_,_,rfl,_,_,rfl,rfl,?_⟩;obtain⟨t1,t2,h1,h2⟩:=hp a x y rfl e;have es:G3 H (.ref a)=(Gq x && Gq y && Ly x y):=by unfold G3;simp only[e]
     rw[es] at q;refine⟨_,rfl,_,_,rfl,h1,_,rfl,?_⟩;cases ex:Gq x with
     | false=> rw[ex] at q;exact EL q
     | true=>
      rw[ex] at q;refine EK ⟨_,rfl,_,_,rfl,h2,_,rfl,?_⟩;cases ey:Gq y with
      | false=> rw[ey] at q;exact EL q
      | true=>
       rw[ey] at q;refine EK ⟨_,rfl,_,rfl,?_⟩;cases x with
       | non=>exact EL q
       | int i=>
        refine EK ⟨_,rfl,_,rfl,?_⟩;cases y with
        | non=>exact EL q
        | int j=>exact EK ⟨_,rfl,_,rfl,_,_,rfl,rfl,q⟩
        | _=>exact absurd ey Ar
       | _=>exact absurd ex Ar
  · have es:G3 H (.ref a)=false:=by
     unfold G3;simp only[e]
     match xs,hl with
     | [],_=>rfl
     | [_],_=>rfl
     | [_,_],h=>exact absurd rfl h
     | _::_::_::_,_=>rfl
    have ed:(!decide (V.int ((xs.length:Nat):Int)=V.int 2))=true:=by
     have:¬V.int ((xs.length:Nat):Int)=V.int 2:=λz=>by injection z with z;omega
     rw[decide_eq_false this];rfl
    rw[es] at q;show if(!decide (V.int ((xs.length:Nat):Int)=V.int 2))=true then _ else _
    rw[ed];exact EL q
 case non=>exact⟨_,rfl,_,_,"tuple",false,rfl,.non,rfl,_,rfl,EL (q0 rfl)⟩
 case bl b=>exact⟨_,rfl,_,_,"tuple",false,rfl,(.bl b),rfl,_,rfl,EL (q0 rfl)⟩
 case int i=>exact⟨_,rfl,_,_,"tuple",false,rfl,(.int i),rfl,_,rfl,EL (q0 rfl)⟩
 case str x=>exact⟨_,rfl,_,_,"tuple",false,rfl,(.str x),rfl,_,rfl,EL (q0 rfl)⟩
 case flt x=>exact⟨_,rfl,_,_,"tuple",false,rfl,(.flt x),rfl,_,rfl,EL (q0 rfl)⟩
 case lst a xs e=>exact⟨_,rfl,_,_,"tuple",false,rfl,(.lst e),rfl,_,rfl,EL (q0 (by unfold G3;simp only[e]))⟩
 case frz a o xs e=>exact⟨_,rfl,_,_,"tuple",false,rfl,(.frz e),rfl,_,rfl,EL (q0 (by unfold G3;simp only[e]))⟩
 case dK a kvs e=>exact⟨_,rfl,_,_,"tuple",false,rfl,(.dK e),rfl,_,rfl,EL (q0 (by unfold G3;simp only[e]))⟩
 case dT a kvs e=>exact⟨_,rfl,_,_,"tuple",false,rfl,(.dT e),rfl,_,rfl,EL (q0 (by unfold G3;simp only[e]))⟩
theorem Ss(F:Fun K "is_field" "is_field" KS f fd)  :FnOk P w K mg base Fe 1 f fd ["thing"] (F5 FK):=by
 refine F.ok SE (λvs H Q E h=>?_) (λcdv A outer s H vs Q E hr h=>?_)
 · obtain⟨v,d,rfl,hd,q⟩:=h;rfl
 obtain⟨v,d,rfl,hd,q⟩:=h;refine⟨_,(EQ (Fj (PW.pt (FJ (Fp (Fm (Fb (FD (n:="")) rfl B.isinstance_ FE (EJ (pv 0) (EJ (FG (v:= .ty "str") rfl B.str_ JK rfl) EM))))) (Gf (Fp (Rm LA LA EN (Fb Lf rfl B.len_ FP (EJ (pv 0) EM)) (LK (v:= .int 8) rfl qML' ⟨_,rfl⟩)))))) (ES (EV Fv)) Fi)
  (ES (EV (Fb (HH rfl) rfl B.all_ HF (EJ (G8 (N':=["sign"]) (js:=[none]) rfl (G7 (N:=["thing"]) (outer:=Fa KS) (by decide+kernel)) (ND (pv 0)) (λ_ _ _ _ _=>(Fw (i:=0) Kn rfl (Or.inl rfl))) (λ_ _ _ _ _=>Hb) (λ_ _ _ _ _=>(Rj Md Md Gm (pv 0) Gm))) EM))))),?_⟩
 cases d with
 | str x=>
  rw[RepY] at hd;obtain⟨rfl,hx⟩:=hd;refine⟨_,rfl,_,"str","str",true,rfl,.str x,rfl,_,rfl,EK ⟨_,rfl,x,rfl,FH (by omega),_,_,rfl,rfl,_,rfl,?_⟩⟩;have qf:∀b,FT x=b→∀H',Same H H'→Q (.bl b) H':=λb e H' s=>by rw[←e];exact q H' s
  by_cases l1:(1:Int)≤(x.length:Int)
  · rw[decide_eq_true l1];refine EL ⟨_,_,rfl,rfl,_,rfl,?_⟩;by_cases l8:(x.length:Int)≤8
    · rw[decide_eq_true l8];refine EK ⟨_,rfl,x,rfl,λp hp=>?_⟩;have sl:(L2.signs x).length=x.length:=by unfold L2.signs;rw[Ab,A3];rfl
      refine NX (xs:=L2.signs x) (λi σ' ys H'=>(∃v,σ'=[v])∧Same H H'∧H' p=some (.lst ys)∧ys=((x.cps.toList.take i).map FR).map V.bl) ⟨⟨none,rfl⟩,EW hp _,EU,rfl⟩ ?_ ?_ ?_
      · rintro i σ' ys H' hi ⟨_,_,h1,h2⟩;refine⟨h1,?_⟩;rw[h2,Ab,Ab,A4];exact G2 (by omega)
      · rintro i y σ' ys H' N hy ⟨⟨v,rfl⟩,s,h1,h2⟩ hN;unfold L2.signs at hy;rw[A5] at hy;cases hc:x.cps.toList[i]? with
        | none=>rw[hc] at hy;cases hy
        | some c=>
         rw[hc] at hy;obtain rfl:V.str ⟨#[c]⟩=y:=A2 hy;refine⟨_,rfl,_,_,rfl,rfl,_,rfl,?_⟩;rw[P2];have fin:∀b,FR c=b→H' p=some (.lst ys)∧N [some (V.str ⟨#[c]⟩)] (ys++[V.bl b]) (EO H' p (.lst (ys++[V.bl b]))):=λb e=>
          ⟨h1,hN _ _ _ ⟨⟨_,rfl⟩,Hy s hp,EU,by rw[h2,FS hc,Am,Am,←e];rfl⟩⟩
         cases hb:decide (97≤c) with
         | true=> refine EL ⟨_,_,rfl,rfl,?_⟩;dsimp only;rw[P6];exact fin _ (by unfold FR;rw[hb,Ax])
         | false=>exact EK (fin _ (by unfold FR;rw[hb,Bj]))
      · rintro σ' ys H' ⟨_,s,h1,h2⟩;have et:x.cps.toList.take (L2.signs x).length=x.cps.toList:=As (by rw[sl];exact Nat.le_of_eq (A3 ..));refine⟨p,x.cps.toList.map FR,rfl,SqL.of (by rw[h1,h2,et]),qf _ ?_ H' s⟩;have e1:decide (1≤x.length)=true:=decide_eq_true (by omega);have e2:decide (x.length≤8)=true:=decide_eq_true (by omega);unfold FT;rw[e1,e2,LS];rfl
    · rw[decide_eq_false l8];refine EL (qf _ ?_ H (Same.refl _));have e2:decide (x.length≤8)=false:=decide_eq_false (by omega);unfold FT;rw[e2,Bm];rfl
  · rw[decide_eq_false l1];refine EK ⟨_,rfl,EL (qf _ ?_ H (Same.refl _))⟩;have e1:decide (1≤x.length)=false:=decide_eq_false (by omega);unfold FT;rw[e1];rfl
 | _=>exact⟨_,rfl,_,_,"str",false,rfl,hd.ty,rfl,_,rfl,EL (q _ (Same.refl _))⟩
theorem Tr(F:Fun K "is_wish_part" "is_wish_part" Mz f fd)(DX:Γ3 P w K mg base)(DZ:Γ2 P w K mg base):FnOk P w K mg base Fe 4 f fd ["thing"] (F5 Gg):=by
 refine F.ok DC (λvs H Q E h=>?_) (λcdv A outer s H vs Q E hr h=>?_)
 · obtain⟨v,d,rfl,hd,q⟩:=h;rfl
 obtain⟨v,d,rfl,hd,q⟩:=h;refine⟨_,(EQ (Fj (PW.pt (FJ (Fp (Fm (Fb (FD (n:="")) rfl B.isinstance_ FE (EJ (pv 0) (EJ (FG (v:= .ty "tuple") rfl B.tuple_ Gc rfl) EM))))) (Gf (Fq HE (Fb Gj rfl B.len_ FP (EJ (pv 0) EM)) EN (Fd _))))) (ES (EV Fv)) Fi)
  (EQ (II (pv 0) (JG rfl (GH (Fw (i:=1) DC.nd rfl (Or.inl rfl)) (GH (Fw (i:=2) DC.nd rfl (Or.inl rfl)) (GH (Fw (i:=3) DC.nd rfl (Or.inl rfl)) Jo)))))
  (ES (EV (Ge (ET DX (hr.mono (by decide)) rfl (EJ (pv 1) EM)) (Gr (ET DZ (hr.mono (by decide)) rfl (EJ (FW (EJ (pv 2) (EJ (pv 3) EM))) EM)))))))),?_⟩
 cases d with
 | tup ds=>
  rw[RepY] at hd;obtain⟨a,xs,rfl,h1,h0,h2⟩:=hd;have lx:=h2.length;refine⟨_,rfl,_,"tuple","tuple",true,rfl,.tup h1,rfl,_,rfl,EK ⟨_,rfl,a,_,rfl,.inr (SqT.of h1),rfl,_,rfl,?_⟩⟩;by_cases hl:ds.length=3
  · refine N6 (by rw[lx,hl];rfl) ?_;obtain⟨df,dl,dh,rfl⟩:∃x y z,ds=[x,y,z]:=by
     match ds,hl with
     | [x,y,z],_=>exact⟨x,y,z,rfl⟩
    obtain⟨vf,vl,vh,rfl,r1,r2,r3⟩:=h2.three;refine⟨_,rfl,a,_,rfl,SqT.of h1,rfl,_,_,rfl,_,_,rfl,_,_,rfl,rfl,?_⟩;refine⟨_,rfl,vf,df,rfl,r1,λH1 s1=>⟨_,rfl,?_⟩⟩;have qw:Gg (.tup [df,dl,dh])=(FK df && Jj (.tup [dl,dh])):=rfl;rw[qw] at q;cases hf:FK df with
    | false=> rw[hf] at q;exact EK (q _ s1)
    | true=>
     rw[hf,Ax] at q;refine EL ⟨_,rfl,_,rfl,G6,λt ht=>?_⟩;have st:=EW ht (.tup [vl,vh]);have rt:RepY (EO H1 t (.tup [vl,vh])) (.tup [dl,dh]) (.ref t):=by rw[RepY];exact⟨t,_,rfl,EU,by simp,RepYs.mk2 (r2.same (s1.trans st)) (r3.same (s1.trans st))⟩
     obtain⟨e1,e2⟩:=QL (K:=K) rt;refine⟨.ref t,_,rfl,rt.ty,e2,?_⟩;rw[e1];exact q _ (s1.trans st)
  · rw[Sf hl] at q;have:¬V.int (xs.length:Int)=V.int 3:=λz=>hl (by injection z with z;omega)
    rw[decide_eq_false this];exact EL (q _ (Same.refl _))
 | _=>exact⟨_,rfl,_,_,"tuple",false,rfl,hd.ty,rfl,_,rfl,EL (q _ (Same.refl _))⟩
theorem Tw(F:Fun K "is_piece_part" "is_piece_part" M6 f fd)(DX:Γ3 P w K mg base)(DV:Γ0 P w K mg base):FnOk P w K mg base Fe 2 f fd ["thing"] (F5 Gs):=by
 refine F.ok DD (λvs H Q E h=>?_) (λcdv A outer s H vs Q E hr h=>?_)
 · obtain⟨v,d,rfl,hd,q⟩:=h;rfl
 obtain⟨v,d,rfl,hd,q⟩:=h;refine⟨_,(EQ (Fj (PW.pt (FJ (Fp (Fm (Fb (FD (n:="")) rfl B.isinstance_ FE (EJ (pv 0) (EJ (FG (v:= .ty "tuple") rfl B.tuple_ Gc rfl) EM))))) (Gf (Fq HE (Fb Gj rfl B.len_ FP (EJ (pv 0) EM)) EN (Fd _))))) (ES (EV Fv)) Fi)
  (EQ (II (pv 0) (JG rfl (GH (Fw (i:=1) DD.nd rfl (Or.inl rfl)) (GH (Fw (i:=2) DD.nd rfl (Or.inl rfl)) Jo))))
  (ES (EV (Ge (ET DX (hr.mono (by decide)) rfl (EJ (pv 1) EM)) (Gr (ET DV (hr.mono (by decide)) rfl (EJ (pv 2) EM)))))))),?_⟩
 cases d with
 | tup ds=>
  rw[RepY] at hd;obtain⟨a,xs,rfl,h1,h0,h2⟩:=hd;have lx:=h2.length;refine⟨_,rfl,_,"tuple","tuple",true,rfl,.tup h1,rfl,_,rfl,EK ⟨_,rfl,a,_,rfl,.inr (SqT.of h1),rfl,_,rfl,?_⟩⟩;by_cases hl:ds.length=2
  · refine N6 (by rw[lx,hl];rfl) ?_;obtain⟨df,dn,rfl⟩:∃x y,ds=[x,y]:=by
     match ds,hl with
     | [x,y],_=>exact⟨x,y,rfl⟩
    obtain⟨vf,vn,rfl,r1,r2⟩:=h2.two;refine⟨_,rfl,a,_,rfl,SqT.of h1,rfl,_,_,rfl,_,_,rfl,rfl,?_⟩;refine⟨_,rfl,vf,df,rfl,r1,λH1 s1=>⟨_,rfl,?_⟩⟩;have qw:Gs (.tup [df,dn])=(FK df && HG dn):=rfl;rw[qw] at q;cases hf:FK df with
    | false=> rw[hf] at q;exact EK (q _ s1)
    | true=> rw[hf,Ax] at q;refine EL ⟨_,rfl,vn,_,rfl,(r2.same s1).ty,?_⟩;rw[OJ];exact q _ s1
  · rw[So hl] at q;have:¬V.int (xs.length:Int)=V.int 2:=λz=>hl (by injection z with z;omega)
    rw[decide_eq_false this];exact EL (q _ (Same.refl _))
 | _=>exact⟨_,rfl,_,_,"tuple",false,rfl,hd.ty,rfl,_,rfl,EL (q _ (Same.refl _))⟩
theorem Tv(F:Fun K "fields_ascend" "fields_ascend" Ld f fd)  :FnOk P w K mg base Fe 1 f fd ["parts"] (LQ (λds=>∀d∈ds,(Gy d).isSome=true) E_):=by
 refine F.ok TR (λvs H Q E h=>?_) (λcdv A outer s H vs Q E hr h=>?_)
 · obtain⟨v,ds,rfl,hd,hp,q⟩:=h;rfl
 obtain⟨v,ds,rfl,hd,hp,q⟩:=h;refine⟨_,(ES (EV (Fb (HH rfl) rfl B.all_ HF (EJ (G8 (N':=["ahead","behind"]) (js:=[none,none]) rfl (G7 (N:=["parts"]) (outer:=Fa Ld) (by decide+kernel)) (NE rfl B.zip_ (EJ (pv 0) (EJ (FO Oq (pv 0) (FL EN) FX) EM))) (λ_ _ _ _ _=>(Og K rfl (n:=2) rfl (GH (Fw (i:=0) HP rfl (Or.inl rfl)) (GH (Fw (i:=1) HP rfl (Or.inl rfl)) Jo)))) (λ_ _ _ _ _=>Hb) (λ_ _ _ _ _=>(Gw Rh (Fc (Jp K rfl) (pv 0) EN (λ_ _=>rfl)) (Fc (Jp K rfl) (pv 1) EN (λ_ _=>rfl)) (Fd _)))) EM)))),?_⟩;rw[RepY] at hd;obtain⟨a,xs,rfl,ha,h0,h2⟩:=hd;have lx:=h2.length;refine⟨_,rfl,_,rfl,_,rfl,?_⟩;dsimp only[Mc];refine QK (SqT.of ha) λp1 H1 s1 q1=>?_;refine⟨a,p1,rfl,⟨_,s1.seqT (SqT.of ha)⟩,⟨_,q1⟩,λp hp'=>?_⟩;have ld:(xs.drop 1).length=ds.length - 1:=by rw[AU,lx]
 refine NY (n:=ds.length - 1) (xs:=xs) (ys:=xs.drop 1) (by omega) (by rw[ld];exact Ae _) (.inr (by rw[ld];exact Ae _))
  (λi σ' ys H'=>(∃v w,σ'=[v,w])∧Same H1 H'∧H' p=some (.lst ys)∧ys=((Ba i).map (λi=>FA (ds.getD i .non) (ds.getD (i+1) .non))).map V.bl) ⟨⟨none,none,rfl⟩,EW hp' _,EU,rfl⟩ ?_ ?_ ?_
 · rintro i σ' zs H' hi ⟨_,s,h1,h3⟩;refine⟨(s1.trans s).seqT (SqT.of ha),s.seqT q1,h1,?_⟩;rw[h3,Ab,Ab,CN];exact G2 (by omega)
 · rintro i x y σ' zs H' r N hx hy hr' ⟨⟨v,w',rfl⟩,s,h1,h3⟩ hN;rw[List.getElem?_drop,Nat.add_comm] at hy;obtain⟨d1,e1,r1⟩:=h2.get hx;obtain⟨d2,e2,r2⟩:=h2.get hy;obtain⟨x1,f1⟩:=BY.mp (hp d1 (AO e1));obtain⟨x2,f2⟩:=BY.mp (hp d2 (AO e2));obtain⟨a1,t1,rfl,g1⟩:=OH r1 f1;obtain⟨a2,t2,rfl,g2⟩:=OH r2 f2;have s3:=EW hr' (.tup [V.ref a1,V.ref a2]);have t3:=(s1.trans s).trans s3;refine⟨r,_,rfl,SqT.of EU,rfl,_,_,rfl,_,_,rfl,rfl,?_⟩;refine⟨_,rfl,a1,_,0,_,rfl,rfl,SqT.of (t3 _ _ g1),Ga,_,rfl,a2,_,0,_,rfl,rfl,SqT.of (t3 _ _ g2),Ga,_,_,rfl,rfl,?_⟩;refine⟨s3 _ _ h1,hN _ _ _ ⟨⟨_,_,rfl⟩,Hy (s.trans s3) hp',EU,?_⟩⟩;rw[h3,List.range_succ,Am,Am];congr 1;show [V.bl (decide (x1.cps.toList<x2.cps.toList))]=[V.bl (FA (ds.getD i .non) (ds.getD (i+1) .non))];rw[AE,AE,e1,e2];show _=[V.bl (FA d1 d2)];rw[KD f1 f2]
 · rintro σ' zs H' ⟨_,s,h1,h3⟩;refine⟨p,_,rfl,SqL.of (by rw[h1,h3]),?_⟩;rw[←OB];exact q H' (s1.trans s)
theorem RF(F:Fun K "is_wish" "is_wish" KZ f fd)(D_:Γ6 P w K mg base)(Ea:Γ4 P w K mg base):FnOk P w K mg base Fe 5 f fd ["thing"] (F5 GF):=by
 refine F.ok RP (λvs H Q E h=>?_) (λcdv A outer s H vs Q E hr h=>?_)
 · obtain⟨v,d,rfl,hd,q⟩:=h;rfl
 obtain⟨v,d,rfl,hd,q⟩:=h;refine⟨_,(EQ (Fj (Fp (Fm (Fb (FD (n:="")) rfl B.isinstance_ FE (EJ (pv 0) (EJ (FG (v:= .ty "tuple") rfl B.tuple_ Gc rfl) EM))))) (ES (EV Fv)) Fi)
  (ES (EV (Ge (Fb (HH rfl) rfl B.all_ HF (EJ (G8 (N':=["part"]) (js:=[none]) rfl (G7 (N:=["thing"]) (outer:=Fa KZ) (by decide+kernel)) (GT (pv 0)) (λ_ _ _ _ _=>(Fw (i:=0) Kk rfl (Or.inl rfl))) (λ_ _ _ _ _=>Hb) (λ_ _ _ _ _=>(ET Ea (hr.mono (by decide)) rfl (EJ (pv 0) EM)))) EM)) (Gr (ET D_ (hr.mono (by decide)) rfl (EJ (pv 0) EM))))))),?_⟩
 cases d with
 | tup ds=>
  have hd0:=hd;rw[RepY] at hd;obtain⟨a,xs,rfl,ha,h0,h2⟩:=hd;have lx:=h2.length;refine⟨_,rfl,_,"tuple","tuple",true,rfl,.tup ha,rfl,_,rfl,EK ?_⟩;refine⟨_,rfl,a,rfl,⟨_,SqT.of ha⟩,λp hp=>?_⟩;refine Jn (xs:=xs) (λi σ' ys H'=>(∃v,σ'=[v])∧Same H H'∧H' p=some (.lst ys)∧ys=((ds.take i).map Gg).map V.bl) ⟨⟨none,rfl⟩,EW hp _,EU,rfl⟩ ?_ ?_ ?_
  · rintro i σ' ys H' hi ⟨_,s,h1,h3⟩;refine⟨s.seqT (SqT.of ha),h1,?_⟩;rw[h3,Ab,Ab,A4];exact G2 (by omega)
  · rintro i x σ' ys H' N hx ⟨⟨v,rfl⟩,s,h1,h3⟩ hN;obtain⟨d1,e1,r1⟩:=h2.get hx;refine⟨_,rfl,x,d1,rfl,r1.same s,λH2 s2=>?_⟩;refine⟨s2 _ _ h1,hN _ _ _ ⟨⟨_,rfl⟩,Hy (s.trans s2) hp,EU,?_⟩⟩;rw[h3,FS e1,Am,Am];rfl
  · rintro σ' ys H' ⟨_,s,h1,h3⟩;rw[As (by omega)] at h3;refine⟨p,ds.map Gg,rfl,SqL.of (by rw[h1,h3]),_,rfl,?_⟩;rw[LS];have qw:GF (.tup ds)=(ds.all Gg && E_ ds):=rfl;rw[qw] at q;cases hb:ds.all Gg with
    | false=> rw[hb,Bj] at q;exact EK (q _ s)
    | true=> rw[hb,Ax] at q;exact EL ⟨_,rfl,.ref a,ds,rfl,hd0.same s,λd1 hd1=>SQ (Ay.mp hb d1 hd1),λH2 s2=>q H2 (s.trans s2)⟩
 | _=>exact⟨_,rfl,_,_,"tuple",false,rfl,hd.ty,rfl,_,rfl,EL (q _ (Same.refl _))⟩
theorem Su(F:Fun K "is_piece" "is_piece" KT f fd)(D_:Γ6 P w K mg base)(Eb:Γ5 P w K mg base):FnOk P w K mg base Fe 3 f fd ["thing"] (F5 G0):=by
 refine F.ok SF (λvs H Q E h=>?_) (λcdv A outer s H vs Q E hr h=>?_)
 · obtain⟨v,d,rfl,hd,q⟩:=h;rfl
 obtain⟨v,d,rfl,hd,q⟩:=h;refine⟨_,(EQ (Fj (Fp (Fm (Fb (FD (n:="")) rfl B.isinstance_ FE (EJ (pv 0) (EJ (FG (v:= .ty "tuple") rfl B.tuple_ Gc rfl) EM))))) (ES (EV Fv)) Fi)
  (ES (EV (Ge (Fb (HH rfl) rfl B.all_ HF (EJ (G8 (N':=["part"]) (js:=[none]) rfl (G7 (N:=["thing"]) (outer:=Fa KT) (by decide+kernel)) (GT (pv 0)) (λ_ _ _ _ _=>(Fw (i:=0) Kk rfl (Or.inl rfl))) (λ_ _ _ _ _=>Hb) (λ_ _ _ _ _=>(ET Eb (hr.mono (by decide)) rfl (EJ (pv 0) EM)))) EM)) (Gr (ET D_ (hr.mono (by decide)) rfl (EJ (pv 0) EM))))))),?_⟩
 cases d with
 | tup ds=>
  have hd0:=hd;rw[RepY] at hd;obtain⟨a,xs,rfl,ha,h0,h2⟩:=hd;have lx:=h2.length;refine⟨_,rfl,_,"tuple","tuple",true,rfl,.tup ha,rfl,_,rfl,EK ?_⟩;refine⟨_,rfl,a,rfl,⟨_,SqT.of ha⟩,λp hp=>?_⟩;refine Jn (xs:=xs) (λi σ' ys H'=>(∃v,σ'=[v])∧Same H H'∧H' p=some (.lst ys)∧ys=((ds.take i).map Gs).map V.bl) ⟨⟨none,rfl⟩,EW hp _,EU,rfl⟩ ?_ ?_ ?_
  · rintro i σ' ys H' hi ⟨_,s,h1,h3⟩;refine⟨s.seqT (SqT.of ha),h1,?_⟩;rw[h3,Ab,Ab,A4];exact G2 (by omega)
  · rintro i x σ' ys H' N hx ⟨⟨v,rfl⟩,s,h1,h3⟩ hN;obtain⟨d1,e1,r1⟩:=h2.get hx;refine⟨_,rfl,x,d1,rfl,r1.same s,λH2 s2=>?_⟩;refine⟨s2 _ _ h1,hN _ _ _ ⟨⟨_,rfl⟩,Hy (s.trans s2) hp,EU,?_⟩⟩;rw[h3,FS e1,Am,Am];rfl
  · rintro σ' ys H' ⟨_,s,h1,h3⟩;rw[As (by omega)] at h3;refine⟨p,ds.map Gs,rfl,SqL.of (by rw[h1,h3]),_,rfl,?_⟩;rw[LS];have qw:G0 (.tup ds)=(ds.all Gs && E_ ds):=rfl;rw[qw] at q;cases hb:ds.all Gs with
    | false=> rw[hb,Bj] at q;exact EK (q _ s)
    | true=> rw[hb,Ax] at q;exact EL ⟨_,rfl,.ref a,ds,rfl,hd0.same s,λd1 hd1=>RM (Ay.mp hb d1 hd1),λH2 s2=>q H2 (s.trans s2)⟩
 | _=>exact⟨_,rfl,_,_,"tuple",false,rfl,hd.ty,rfl,_,rfl,EL (q _ (Same.refl _))⟩
theorem RD(F:Fun K "is_name" "is_name" Mf f fd)(DX:Γ3 P w K mg base):FnOk P w K mg base Fe 2 f fd ["thing"] (F5 FK):=by
 refine F.ok RO (λvs H Q E h=>?_) (λcdv A outer s H vs Q E hr h=>?_)
 · obtain⟨v,d,rfl,hd,q⟩:=h;rfl
 obtain⟨v,d,rfl,hd,q⟩:=h;refine⟨_,(ES (EV (ET DX (hr.mono (by decide)) rfl (EJ (pv 0) EM)))),?_⟩;exact⟨_,rfl,v,d,rfl,hd,q⟩
theorem TM(F:Fun K "is_from_nought" "is_from_nought" Mu f fd)(DV:Γ0 P w K mg base):FnOk P w K mg base Fe 2 f fd ["thing"] (F5 Fg):=by
 refine F.ok TQ (λvs H Q E h=>?_) (λcdv A outer s H vs Q E hr h=>?_)
 · obtain⟨v,d,rfl,hd,q⟩:=h;rfl
 obtain⟨v,d,rfl,hd,q⟩:=h;refine⟨_,(ES (EV (Ge (ET DV (hr.mono (by decide)) rfl (EJ (pv 0) EM)) (Gr (Gw L9 (pv 0) EN (Fd _)))))),?_⟩;refine⟨_,rfl,v,_,rfl,hd.ty,_,rfl,?_⟩;rw[OJ];cases d with
 | int i=> rw[RepY] at hd;subst hd;exact EL ⟨_,rfl,_,_,rfl,rfl,q _ (Same.refl _)⟩
 | _=>exact EK (q _ (Same.refl _))
theorem Rg(F:Fun K "is_way" "is_way" KN f fd)(Ec:Γ10 P w K mg base):FnOk P w K mg base Fe 3 f fd ["thing"] (F5 F9):=by
 refine F.ok RV (λvs H Q E h=>?_) (λcdv A outer s H vs Q E hr h=>?_)
 · obtain⟨v,d,rfl,hd,q⟩:=h;rfl
 obtain⟨v,d,rfl,hd,q⟩:=h;refine⟨_,(EQ (Fj (PW.pt (FJ (Fp (Fm (Fb (FD (n:="")) rfl B.isinstance_ FE (EJ (pv 0) (EJ (FG (v:= .ty "tuple") rfl B.tuple_ Gc rfl) EM))))) (Gf (Fq HZ (Fb Gj rfl B.len_ FP (EJ (pv 0) EM)) EN (Fd _))))) (ES (EV Fv)) Fi)
  (ES (EV (Ge (Fb (HH rfl) rfl B.all_ HF (EJ (G8 (N':=["post"]) (js:=[none]) rfl (G7 (N:=["thing"]) (outer:=Fa KN) (by decide+kernel)) (GT (pv 0)) (λ_ _ _ _ _=>(Fw (i:=0) Ng rfl (Or.inl rfl))) (λ_ _ _ _ _=>Hb) (λ_ _ _ _ _=>(ET Ec (hr.mono (by decide)) rfl (EJ (pv 0) EM)))) EM)) (Gr (Gw Gb (RH rfl (pv 0) rfl B.len_ rfl B.set_) (Fb Gj rfl B.len_ FP (EJ (pv 0) EM)) (Fd _))))))),?_⟩
 cases d with
 | tup ds=>
  have hd0:=hd;rw[RepY] at hd;obtain⟨a,xs,rfl,ha,h9,hx⟩:=hd;have lx:=hx.length;refine⟨_,rfl,_,"tuple","tuple",true,rfl,.tup ha,rfl,_,rfl,EK ⟨_,rfl,a,_,rfl,.inr (SqT.of ha),_,_,rfl,rfl,_,rfl,?_⟩⟩;have qw:F9 (.tup ds)=Gn ds:=rfl;rw[qw] at q;refine F7 (λh=>?_) (λh=>?_)
  · have h:=of_decide_eq_true h;rw[O9 (by omega)] at q;exact q _ (Same.refl _)
  · have h2:2≤ds.length:=by
     have:¬((xs.length:Int)<2):=λz=>h (decide_eq_true z);omega
    have q2:Gn ds=(ds.all Fg && decide ((ds.map F8).Nodup)):=by unfold Gn;rw[decide_eq_true h2];rfl
    rw[q2] at q;refine QI (D:={nx:=λx H'=>Q V.non H',rt:=Q}) (KJ rfl ha hx h9 λH1 s1=>⟨_,rfl,?_⟩);cases hn:ds.all Fg with
    | false=>rw[hn] at q;exact EK (q _ s1)
    | true=> rw[hn,Ax] at q;have ex:=LY hx hn;refine EL ⟨_,rfl,a,ds.map F8,rfl,SqT.of (by rw[s1 _ _ ha,ex]),(by rw[Ab];omega),_,rfl,a,_,rfl,.inr (SqT.of (s1 _ _ ha)),rfl,?_⟩;have:=RU (ds.map F8);rw[Ab,←lx] at this;dsimp only at this ⊢;rw[this];exact q _ s1
 | _=>exact⟨_,rfl,_,_,"tuple",false,rfl,hd.ty,rfl,_,rfl,EL (q _ (Same.refl _))⟩
theorem RC(F:Fun K "is_mark" "is_mark" KY f fd)(Ec:Γ10 P w K mg base):FnOk P w K mg base Fe 3 f fd ["thing"] (F5 Gu):=by
 refine F.ok RN (λvs H Q E h=>?_) (λcdv A outer s H vs Q E hr h=>?_)
 · obtain⟨v,d,rfl,hd,q⟩:=h;rfl
 obtain⟨v,d,rfl,hd,q⟩:=h;refine⟨_,(ES (EV (Ge (Fb (FD (n:="")) rfl B.isinstance_ FE (EJ (pv 0) (EJ (FG (v:= .ty "tuple") rfl B.tuple_ Gc rfl) EM))) (Ge (Gw Gb (Fb Gj rfl B.len_ FP (EJ (pv 0) EM)) EN (Fd _)) (Gr (Fb (HH rfl) rfl B.all_ HF (EJ (G8 (N':=["number"]) (js:=[none]) rfl (G7 (N:=["thing"]) (outer:=Fa KY) (by decide+kernel)) (GT (pv 0)) (λ_ _ _ _ _=>(Fw (i:=0) Nf rfl (Or.inl rfl))) (λ_ _ _ _ _=>Hb) (λ_ _ _ _ _=>(ET Ec (hr.mono (by decide)) rfl (EJ (pv 0) EM)))) EM))))))),?_⟩;cases d with
 | tup ds=>
  have hd0:=hd;rw[RepY] at hd;obtain⟨a,xs,rfl,ha,h9,hx⟩:=hd;have lx:=hx.length;refine⟨_,rfl,_,"tuple","tuple",true,rfl,.tup ha,rfl,_,rfl,EL ⟨_,rfl,a,_,rfl,.inr (SqT.of ha),rfl,_,rfl,?_⟩⟩;by_cases hl:ds.length=2
  · rw[decide_eq_true (show V.int (xs.length:Int)=V.int 2 by rw[lx,hl];rfl)];obtain⟨d0,d1,rfl⟩:=JI hl;refine EL (KJ rfl ha hx h9 λH1 s1=>?_);have:[d0,d1].all Fg=Gu (.tup [d0,d1]):=by simp[Gu]
    rw[this];exact q _ s1
  · have:Gu (.tup ds)=false:=by
     match ds,hl with
     | [],_=>rfl
     | [_],_=>rfl
     | [_,_],h=>exact absurd rfl h
     | _::_::_::_,_=>rfl
    rw[this] at q;rw[decide_eq_false (show ¬V.int (xs.length:Int)=V.int 2 from λz=>hl (by injection z with z;omega))]
    exact EK (q _ (Same.refl _))
 | _=>exact⟨_,rfl,_,_,"tuple",false,rfl,hd.ty,rfl,_,rfl,EK (q _ (Same.refl _))⟩
theorem Tc(F:Fun K "are_marks" "are_marks" JR f fd)(Ed:Γ12 P w K mg base):FnOk P w K mg base Fe 4 f fd ["thing"] (F5 GS):=by
 refine F.ok Tk (λvs H Q E h=>?_) (λcdv A outer s H vs Q E hr h=>?_)
 · obtain⟨v,d,rfl,hd,q⟩:=h;rfl
 obtain⟨v,d,rfl,hd,q⟩:=h;refine⟨_,(EQ (Fj (PW.pt (FJ (Fp (Fm (Fb (FD (n:="")) rfl B.isinstance_ FE (EJ (pv 0) (EJ (FG (v:= .ty "tuple") rfl B.tuple_ Gc rfl) EM))))) (Gf (Fp (Fm (Fb (HH rfl) rfl B.all_ HF (EJ (G8 (N':=["mark"]) (js:=[none]) rfl (G7 (N:=["thing"]) (outer:=Fa JR) (by decide+kernel)) (GT (pv 0)) (λ_ _ _ _ _=>(Fw (i:=0) Nd rfl (Or.inl rfl))) (λ_ _ _ _ _=>Hb) (λ_ _ _ _ _=>(ET Ed (hr.mono (by decide)) rfl (EJ (pv 0) EM)))) EM))))))) (ES (EV Fv)) Fi)
  (ES (EV (Fb (HH rfl) rfl B.all_ HF (EJ (G8 (N':=["ahead","behind"]) (js:=[none,none]) rfl (G7 (N:=["thing"]) (outer:=Fa JR) (by decide+kernel)) (NE rfl B.zip_ (EJ (pv 0) (EJ (FO G4 (pv 0) (FL EN) FX) EM))) (λ_ _ _ _ _=>(Og K rfl (n:=2) rfl (GH (Fw (i:=0) HP rfl (Or.inl rfl)) (GH (Fw (i:=1) HP rfl (Or.inl rfl)) Jo)))) (λ_ _ _ _ _=>Hb) (λ_ _ _ _ _=>(Gw HZ (Fc (Jp K rfl) (pv 0) EN (λ_ _=>rfl)) (Fc (Jp K rfl) (pv 1) EN (λ_ _=>rfl)) (Fd _)))) EM))))),?_⟩
 cases d with
 | tup ds=>
  have hd0:=hd;rw[RepY] at hd;obtain⟨a,xs,rfl,ha,h9,hx⟩:=hd;have lx:=hx.length;refine⟨_,rfl,_,"tuple","tuple",true,rfl,.tup ha,rfl,_,rfl,EK (Qo (KJ rfl ha hx h9 λH0 s0=>⟨_,rfl,?_⟩))⟩;have qw:GS (.tup ds)=(ds.all Gu && Fl ds):=rfl;rw[qw] at q;cases hm:ds.all Gu with
  | false=>rw[hm] at q;exact EL (q _ s0)
  | true=>
   rw[hm,Ax] at q;have ha0:=s0 _ _ ha;have h2:=hx.same s0;refine EK ⟨_,rfl,_,rfl,_,rfl,a,_,rfl,ha0,λp1 H1 s1 q1=>?_⟩;rw[LV] at q1;refine⟨a,p1,rfl,⟨_,SqT.of (s1 _ _ ha0)⟩,⟨_,SqT.of q1⟩,λp hp'=>?_⟩;have ld:(xs.drop 1).length=ds.length - 1:=by rw[AU,lx]
   refine NY (n:=ds.length - 1) (xs:=xs) (ys:=xs.drop 1) (by omega) (by rw[ld];exact Ae _) (.inr (by rw[ld];exact Ae _))
    (λi σ' ys H'=>(∃v w,σ'=[v,w])∧Same H1 H'∧H' p=some (.lst ys)∧ys=((Ba i).map (λi=>decide (FV (ds.getD i .non)<FV (ds.getD (i+1) .non)))).map V.bl) ⟨⟨none,none,rfl⟩,EW hp' _,EU,rfl⟩ ?_ ?_ ?_
   · rintro i σ' zs H' hi ⟨_,s,h1,h3⟩;refine⟨(s1.trans s).seqT (SqT.of ha0),s.seqT (SqT.of q1),h1,?_⟩;rw[h3,Ab,Ab,CN];exact G2 (by omega)
   · rintro i x y σ' zs H' r N hx' hy hr' ⟨⟨v,w',rfl⟩,s,h1,h3⟩ hN;rw[List.getElem?_drop,Nat.add_comm] at hy;obtain⟨d1,e1,r1⟩:=h2.get hx';obtain⟨d2,e2,r2⟩:=h2.get hy;obtain⟨i1,j1,rfl,_,_⟩:=KP (Ay.mp hm d1 (AO e1));obtain⟨i2,j2,rfl,_,_⟩:=KP (Ay.mp hm d2 (AO e2));rw[RepY] at r1 r2;obtain⟨a1,t1,rfl,g1,_,k1⟩:=r1;obtain⟨a2,t2,rfl,g2,_,k2⟩:=r2;obtain⟨x1,y1,rfl,m1,_⟩:=k1.two;obtain⟨x2,y2,rfl,m2,_⟩:=k2.two;rw[RepY] at m1 m2;subst m1 m2;have s3:=EW hr' (.tup [V.ref a1,V.ref a2]);have t3:=(s1.trans s).trans s3;refine⟨r,_,rfl,SqT.of EU,rfl,_,_,rfl,_,_,rfl,rfl,?_⟩;refine⟨_,rfl,a1,_,0,_,rfl,rfl,SqT.of (t3 _ _ g1),Ga,_,rfl,a2,_,0,_,rfl,rfl,SqT.of (t3 _ _ g2),Ga,_,_,rfl,rfl,?_⟩;refine⟨s3 _ _ h1,hN _ _ _ ⟨⟨_,_,rfl⟩,Hy (s.trans s3) hp',EU,?_⟩⟩;rw[h3,List.range_succ,Am,Am];congr 1;show [V.bl (decide (i1<i2))]=[V.bl (decide (FV (ds.getD i .non)<FV (ds.getD (i+1) .non)))];rw[AE,AE,e1,e2];rfl
   · rintro σ' zs H' ⟨_,s,h1,h3⟩;refine⟨p,_,rfl,SqL.of (by rw[h1,h3]),?_⟩;rw[←OY];exact q H' (s0.trans (s1.trans s))
 | _=>exact⟨_,rfl,_,_,"tuple",false,rfl,hd.ty,rfl,_,rfl,EL (q _ (Same.refl _))⟩
theorem TJ(F:Fun K "is_numbered_piece" "is_numbered_piece" Mw f fd)(Ed:Γ12 P w K mg base)(Ef:Γ8 P w K mg base):FnOk P w K mg base Fe 4 f fd ["thing"] (F5 HB):=by
 refine F.ok TK (λvs H Q E h=>?_) (λcdv A outer s H vs Q E hr h=>?_)
 · obtain⟨v,d,rfl,hd,q⟩:=h;rfl
 obtain⟨v,d,rfl,hd,q⟩:=h;refine⟨_,(ES (EV (Ge (Fb (FD (n:="")) rfl B.isinstance_ FE (EJ (pv 0) (EJ (FG (v:= .ty "tuple") rfl B.tuple_ Gc rfl) EM))) (Ge (Gw Gb (Fb Gj rfl B.len_ FP (EJ (pv 0) EM)) EN (Fd _)) (Ge (ET Ed (hr.mono (by decide)) rfl (EJ (FO G4 (pv 0) FX (FL EN)) EM)) (Gr (ET Ef (hr.mono (by decide)) rfl (EJ (Fc FN (pv 0) EN (λ_ _=>rfl)) EM)))))))),?_⟩;cases d with
 | tup ds=>
  have hd0:=hd;rw[RepY] at hd;obtain⟨a,xs,rfl,ha,h9,hx⟩:=hd;have lx:=hx.length;refine⟨_,rfl,_,"tuple","tuple",true,rfl,.tup ha,rfl,_,rfl,EL ⟨_,rfl,a,_,rfl,.inr (SqT.of ha),rfl,_,rfl,?_⟩⟩;by_cases hl:ds.length=3
  · rw[decide_eq_true (show V.int (xs.length:Int)=V.int 3 by rw[lx,hl];rfl)];obtain⟨d0,d1,d2,rfl⟩:=O8 hl;obtain⟨x0,x1,x2,rfl,r0,r1,r2⟩:=hx.three;refine EL ⟨_,rfl,_,rfl,a,_,rfl,ha,λp H1 s1 e1=>?_⟩;refine⟨.ref p,.tup [d0,d1],rfl,GR e1 (.cons (r0.same s1) (.cons (r1.same s1) .nil)) (by show 2≤900;decide),λH2 s2=>⟨_,rfl,?_⟩⟩;have qw:HB (.tup [d0,d1,d2])=(Gu (.tup [d0,d1]) && G0 d2):=by
     show(Fg d0 && (Fg d1 && G0 d2))=_;rw[←D2];rfl
    rw[qw] at q;cases hm:Gu (.tup [d0,d1]) with
    | false=>rw[hm] at q;exact EK (q _ (s1.trans s2))
    | true=> rw[hm,Ax] at q;have t:=s1.trans s2;exact EL ⟨_,rfl,a,_,2,_,rfl,rfl,SqT.of (t _ _ ha),rfl,x2,d2,rfl,r2.same t,λH3 s3=>q _ (t.trans s3)⟩
  · have:HB (.tup ds)=false:=by
     match ds,hl with
     | [],_=>rfl
     | [_],_=>rfl
     | [_,_],_=>rfl
     | [_,_,_],h=>exact absurd rfl h
     | _::_::_::_::_,_=>rfl
    rw[this] at q;rw[decide_eq_false (show ¬V.int (xs.length:Int)=V.int 3 from λz=>hl (by injection z with z;omega))]
    exact EK (q _ (Same.refl _))
 | _=>exact⟨_,rfl,_,_,"tuple",false,rfl,hd.ty,rfl,_,rfl,EK (q _ (Same.refl _))⟩
theorem TL(F:Fun K "are_numbered_pieces" "are_numbered_pieces" Lj f fd)(Eg:Γ14 P w K mg base):FnOk P w K mg base Fe 5 f fd ["thing"] (F5 GA):=by
 refine F.ok TU (λvs H Q E h=>?_) (λcdv A outer s H vs Q E hr h=>?_)
 · obtain⟨v,d,rfl,hd,q⟩:=h;rfl
 obtain⟨v,d,rfl,hd,q⟩:=h;refine⟨_,(ES (EV (Ge (Fb (FD (n:="")) rfl B.isinstance_ FE (EJ (pv 0) (EJ (FG (v:= .ty "tuple") rfl B.tuple_ Gc rfl) EM))) (Gr (Fb (HH rfl) rfl B.all_ HF (EJ (G8 (N':=["numbered"]) (js:=[none]) rfl (G7 (N:=["thing"]) (outer:=Fa Lj) (by decide+kernel)) (GT (pv 0)) (λ_ _ _ _ _=>(Fw (i:=0) Nc rfl (Or.inl rfl))) (λ_ _ _ _ _=>Hb) (λ_ _ _ _ _=>(ET Eg (hr.mono (by decide)) rfl (EJ (pv 0) EM)))) EM)))))),?_⟩;cases d with
 | tup ds=> have hd0:=hd;rw[RepY] at hd;obtain⟨a,xs,rfl,ha,h9,hx⟩:=hd;have lx:=hx.length;refine⟨_,rfl,_,"tuple","tuple",true,rfl,.tup ha,rfl,_,rfl,EL (KJ rfl ha hx h9 λH1 s1=>q _ s1)⟩
 | _=>exact⟨_,rfl,_,_,"tuple",false,rfl,hd.ty,rfl,_,rfl,EK (q _ (Same.refl _))⟩
theorem T2(F:Fun K "behind_want" "behind_want" MC f fd)(Eh:Γ7 P w K mg base):FnOk P w K mg base Fe 6 f fd ["rest"] (Ha Hr):=by
 refine F.ok TC (λvs H Q E h=>?_) (λcdv A outer s H vs Q E hr h=>?_)
 · obtain⟨v,ds,rfl,hd,_,q⟩:=h;rfl
 obtain⟨v,ds,rfl,hd,_,q⟩:=h;refine⟨_,(ES (EV (Ge (Gw Gb (Fb Gj rfl B.len_ FP (EJ (pv 0) EM)) EN (Fd _)) (Gr (ET Eh (hr.mono (by decide)) rfl (EJ (Fc FN (pv 0) EN (λ_ _=>rfl)) EM)))))),?_⟩;have hd0:=hd;rw[RepY] at hd;obtain⟨a,xs,rfl,ha,h9,hx⟩:=hd;have lx:=hx.length;refine⟨_,rfl,a,_,rfl,.inr (SqT.of ha),rfl,_,rfl,?_⟩;by_cases hl:ds.length=1
 · rw[decide_eq_true (show V.int (xs.length:Int)=V.int 1 by rw[lx,hl];rfl)];obtain⟨d0,rfl⟩:=K6 hl;obtain⟨x0,rfl,r0⟩:=hx.one;exact EL ⟨_,rfl,a,_,0,_,rfl,rfl,SqT.of ha,Ga,x0,d0,rfl,r0,q⟩
 · have:Hr ds=false:=by
    match ds,hl with
    | [],_=>rfl
    | [_],h=>exact absurd rfl h
    | _::_::_,_=>rfl
   rw[this] at q;rw[decide_eq_false (show ¬V.int (xs.length:Int)=V.int 1 from λz=>hl (by injection z with z;omega))]
   exact EK (q _ (Same.refl _))
theorem T1(F:Fun K "behind_news" "behind_news" MB f fd)(Eg:Γ14 P w K mg base):FnOk P w K mg base Fe 5 f fd ["rest"] (Ha GI):=by
 refine F.ok TB (λvs H Q E h=>?_) (λcdv A outer s H vs Q E hr h=>?_)
 · obtain⟨v,ds,rfl,hd,_,q⟩:=h;rfl
 obtain⟨v,ds,rfl,hd,_,q⟩:=h;refine⟨_,(ES (EV (ET Eg (hr.mono (by decide)) rfl (EJ (pv 0) EM)))),?_⟩;exact⟨_,rfl,v,.tup ds,rfl,hd,q⟩
theorem Tz(F:Fun K "behind_here" "behind_here" M9 f fd)(Ei:Γ9 P w K mg base)(Ej:Γ11 P w K mg base):FnOk P w K mg base Fe 4 f fd ["rest"] (Ha GY):=by
 refine F.ok T8 (λvs H Q E h=>?_) (λcdv A outer s H vs Q E hr h=>?_)
 · obtain⟨v,ds,rfl,hd,_,q⟩:=h;rfl
 obtain⟨v,ds,rfl,hd,_,q⟩:=h;refine⟨_,(ES (EV (Ge (Gw Gb (Fb Gj rfl B.len_ FP (EJ (pv 0) EM)) EN (Fd _)) (Ge (ET Ei (hr.mono (by decide)) rfl (EJ (Fc FN (pv 0) EN (λ_ _=>rfl)) EM)) (Gr (ET Ej (hr.mono (by decide)) rfl (EJ (Fc FN (pv 0) EN (λ_ _=>rfl)) EM))))))),?_⟩;have hd0:=hd;rw[RepY] at hd;obtain⟨a,xs,rfl,ha,h9,hx⟩:=hd;have lx:=hx.length;refine⟨_,rfl,a,_,rfl,.inr (SqT.of ha),rfl,_,rfl,?_⟩;by_cases hl:ds.length=2
 · rw[decide_eq_true (show V.int (xs.length:Int)=V.int 2 by rw[lx,hl];rfl)];obtain⟨d0,d1,rfl⟩:=JI hl;obtain⟨x0,x1,rfl,r0,r1⟩:=hx.two;refine EL ⟨_,rfl,a,_,0,_,rfl,rfl,SqT.of ha,Ga,x0,d0,rfl,r0,λH1 s1=>⟨_,rfl,?_⟩⟩;have qw:GY [d0,d1]=(FK d0 && F9 d1):=rfl;rw[qw] at q;cases hm:FK d0 with
   | false=>rw[hm] at q;exact EK (q _ s1)
   | true=> rw[hm,Ax] at q;exact EL ⟨_,rfl,a,_,1,_,rfl,rfl,SqT.of (s1 _ _ ha),rfl,x1,d1,rfl,r1.same s1,λH2 s2=>q _ (s1.trans s2)⟩
 · have:GY ds=false:=by
    match ds,hl with
    | [],_=>rfl
    | [_],_=>rfl
    | [_,_],h=>exact absurd rfl h
    | _::_::_::_,_=>rfl
   rw[this] at q;rw[decide_eq_false (show ¬V.int (xs.length:Int)=V.int 2 from λz=>hl (by injection z with z;omega))]
   exact EK (q _ (Same.refl _))
theorem T0(F:Fun K "behind_kept" "behind_kept" MA f fd)(Ek:Γ18 P w K mg base)(El:Γ13 P w K mg base)(Em:Γ15 P w K mg base):FnOk P w K mg base Fe 6 f fd ["rest"] (Ha HD):=by
 refine F.ok T9 (λvs H Q E h=>?_) (λcdv A outer s H vs Q E hr h=>?_)
 · obtain⟨v,ds,rfl,hd,_,q⟩:=h;rfl
 obtain⟨v,ds,rfl,hd,_,q⟩:=h;refine⟨_,(ES (EV (Ge (Gw Gb (Fb Gj rfl B.len_ FP (EJ (pv 0) EM)) EN (Fd _)) (Ge (ET Ek (hr.mono (by decide)) rfl (EJ (FO G4 (pv 0) FX (FL EN)) EM)) (Ge (ET El (hr.mono (by decide)) rfl (EJ (Fc FN (pv 0) EN (λ_ _=>rfl)) EM)) (Gr (ET Em (hr.mono (by decide)) rfl (EJ (Fc FN (pv 0) EN (λ_ _=>rfl)) EM)))))))),?_⟩;have hd0:=hd;rw[RepY] at hd;obtain⟨a,xs,rfl,ha,h9,hx⟩:=hd;have lx:=hx.length;refine⟨_,rfl,a,_,rfl,.inr (SqT.of ha),rfl,_,rfl,?_⟩;by_cases hl:ds.length=4
 · rw[decide_eq_true (show V.int (xs.length:Int)=V.int 4 by rw[lx,hl];rfl)];obtain⟨d0,d1,d2,d3,rfl⟩:=Oa hl;obtain⟨x0,x1,x2,x3,rfl,r0,r1,r2,r3⟩:=hx.four;refine EL ⟨_,rfl,_,rfl,a,_,rfl,ha,λp H1 s1 e1=>?_⟩;refine⟨.ref p,[d0,d1],rfl,GR e1 (.cons (r0.same s1) (.cons (r1.same s1) .nil)) (by show 2≤900;decide),trivial,λH2 s2=>⟨_,rfl,?_⟩⟩;have t2:=s1.trans s2;have qw:HD [d0,d1,d2,d3]=(GY [d0,d1] && (GS d2 && GA d3)):=rfl;rw[qw] at q;cases hm:GY [d0,d1] with
   | false=>rw[hm] at q;exact EK (q _ t2)
   | true=>
    rw[hm,Ax] at q;refine EL ⟨_,rfl,a,_,2,_,rfl,rfl,SqT.of (t2 _ _ ha),rfl,x2,d2,rfl,r2.same t2,λH3 s3=>⟨_,rfl,?_⟩⟩;have t3:=t2.trans s3;cases hk:GS d2 with
    | false=>rw[hk] at q;exact EK (q _ t3)
    | true=> rw[hk,Ax] at q;exact EL ⟨_,rfl,a,_,3,_,rfl,rfl,SqT.of (t3 _ _ ha),rfl,x3,d3,rfl,r3.same t3,λH4 s4=>q _ (t3.trans s4)⟩
 · have:HD ds=false:=by
    match ds,hl with
    | [],_=>rfl
    | [_],_=>rfl
    | [_,_],_=>rfl
    | [_,_,_],_=>rfl
    | [_,_,_,_],h=>exact absurd rfl h
    | _::_::_::_::_::_,_=>rfl
   rw[this] at q;rw[decide_eq_false (show ¬V.int (xs.length:Int)=V.int 4 from λz=>hl (by injection z with z;omega))]
   exact EK (q _ (Same.refl _))
theorem Td(F:Fun K "is_letter" "is_letter" Li f fd)(En:Γ16 P w K mg base)(Eo:Γ17 P w K mg base)(Ek:Γ18 P w K mg base)(Ep:Γ19 P w K mg base):FnOk P w K mg base Fe 7 f fd ["thing"] (F5 Ic):=by
 refine F.ok DE (λvs H Q E h=>?_) (λcdv A outer s H vs Q E hr h=>?_)
 · obtain⟨v,d,rfl,hd,q⟩:=h;rfl
 obtain⟨v,d,rfl,hd,q⟩:=h;refine⟨_,(EQ (Fj (PW.pt (FJ (Fp (Fm (Fb (FD (n:="")) rfl B.isinstance_ FE (EJ (pv 0) (EJ (FG (v:= .ty "tuple") rfl B.tuple_ Gc rfl) EM))))) (FJ (Fp (Rn (pv 0) (λ_=>rfl))) (Gf (Fp (Fm (Fb (FD (n:="")) rfl B.isinstance_ FE (EJ (Fc FN (pv 0) EN (λ_ _=>rfl)) (EJ (FG (v:= .ty "str") rfl B.str_ JK rfl) EM))))))))) (ES (EV Fv)) Fi)
  (EQ (Fj (Fq SB (Fc FN (pv 0) EN (λ_ _=>rfl)) (LK (v:= .ref _) rfl qF' rfl) (by with_unfolding_all rfl)) (ES (EV Fv)) Fi)
  (EQ (Ff (i:=1) DE.nd rfl (Or.inl rfl) (Fc Qi (LK (v:= .ref _) rfl qF' rfl) (Fc FN (pv 0) EN (λ_ _=>rfl)) (λ_ _=>rfl)))
  (ES (EV (Ri 6 ["rest"] (pv 1) (hr.mono (by decide)) (EJ (FO G4 (pv 0) (FL EN) FX) EM))))))),?_⟩
 cases d with
 | tup ds=>
  have hd0:=hd;rw[RepY] at hd;obtain⟨a,xs,rfl,ha,h9,hx⟩:=hd;have lx:=hx.length;refine⟨_,rfl,_,"tuple","tuple",true,rfl,.tup ha,rfl,_,rfl,EK ⟨_,rfl,_,.inr (.inl ⟨xs,SqT.of ha,rfl⟩),?_⟩⟩;cases ds with
  | nil=>
   cases xs with
   | nil=>exact EL (q _ (Same.refl _))
   | cons x xr=>cases lx
  | cons d0 r=>
   obtain⟨x,xr,rfl,r0,rr⟩:=hx.cons_of;refine EK ⟨_,rfl,a,_,0,_,rfl,rfl,SqT.of ha,Ga,_,_,"str",_,rfl,r0.ty,Oc K d0,_,rfl,?_⟩;cases hs0:K0 d0 with
   | false=>
    refine EL ?_;have:Ic (.tup (d0::r))=false:=by
     cases d0 with
     | str x=>cases hs0
     | _=>rfl
    rw[←this];exact q _ (Same.refl _)
   | true=>
    obtain⟨w',rfl⟩:=Pb hs0;rw[RepY] at r0;obtain⟨rfl,_⟩:=r0;refine EK ⟨_,rfl,a,_,0,_,rfl,rfl,SqT.of ha,Ga,w',aF,_,rfl,rfl,Fo.d,_,rfl,?_⟩;have qd:Ic (.tup (.str w'::r))=FQ w' r:=rfl;rw[qd] at q;have fin:∀(f0:Addr)(g0:List DY→Bool),FQ w' r=g0 r→BI K (.ref f0)=true→(∃fd0,FnOk P w K mg base Fe 6 f0 fd0 ["rest"] (Ha g0)∧Binds K fd0 ["rest"] [])→NL (GD Fe P w K mg base ["thing","form"] "is_letter" (Fa Li) f cdv A outer s H E).nox 6 ["rest"] (F6 1) (GK (Pi Kc (F6 0) (N3 (tC (V.int 1))) Mc) Go) [some (.ref a),some (.ref f0)] H Q:=λf0 g0 e hk hF=>by obtain⟨fd0,F0,b0⟩:=hF;refine⟨_,rfl,f0,rfl,hk,_,rfl,_,rfl,a,_,rfl,ha,λp H1 s1 e1=>⟨fd0,_,F0,b0,?_⟩⟩;rw[LV] at e1;refine⟨.ref p,r,rfl,GR e1 (rr.same s1) (by have:=rr.length;rw[Aw] at h9;show xr.length≤900;omega),trivial,λH2 s2=>?_⟩;rw[←e];exact q _ (s1.trans s2)
    obtain⟨g1,fd1,F1,B1,K1,M1⟩:=En;obtain⟨g2,fd2,F2,B2,K2,M2⟩:=Eo;obtain⟨g3,fd3,F3,B3,K3,M3⟩:=Ek;obtain⟨g4,fd4,F4,B4,K4,M4⟩:=Ep;have E1:=M1.symm.trans Fo.mw;have E2:=M2.symm.trans Fo.mn;have E3:=M3.symm.trans Fo.mh;have E4:=M4.symm.trans Fo.mq;cases E1;cases E2;cases E3;cases E4;by_cases k1:w'="want"
    · have el:look [("want",V.ref fw),("unwant",.ref fw),("news",.ref fn),("here",.ref fh),("kept",.ref fk)] w'=some (.ref fw):=by simp only[look,if_pos k1]
      have ef:FQ w' r=Hr r:=by unfold FQ;rw[if_pos k1]
      rw[el];exact EK ⟨_,rfl,a,_,0,_,rfl,rfl,SqT.of ha,Ga,aF,w',_,_,rfl,rfl,Fo.d,el,fin fw Hr ef K1 ⟨_,F1.mono (by decide),B1⟩⟩
    by_cases k2:w'="unwant"
    · have el:look [("want",V.ref fw),("unwant",.ref fw),("news",.ref fn),("here",.ref fh),("kept",.ref fk)] w'=some (.ref fw):=by simp only[look,if_neg k1,if_pos k2]
      have ef:FQ w' r=Hr r:=by unfold FQ;rw[if_neg k1,if_pos k2]
      rw[el];exact EK ⟨_,rfl,a,_,0,_,rfl,rfl,SqT.of ha,Ga,aF,w',_,_,rfl,rfl,Fo.d,el,fin fw Hr ef K1 ⟨_,F1.mono (by decide),B1⟩⟩
    by_cases k3:w'="news"
    · have el:look [("want",V.ref fw),("unwant",.ref fw),("news",.ref fn),("here",.ref fh),("kept",.ref fk)] w'=some (.ref fn):=by simp only[look,if_neg k1,if_neg k2,if_pos k3]
      have ef:FQ w' r=GI r:=by unfold FQ;rw[if_neg k1,if_neg k2,if_pos k3]
      rw[el];exact EK ⟨_,rfl,a,_,0,_,rfl,rfl,SqT.of ha,Ga,aF,w',_,_,rfl,rfl,Fo.d,el,fin fn GI ef K2 ⟨_,F2.mono (by decide),B2⟩⟩
    by_cases k4:w'="here"
    · have el:look [("want",V.ref fw),("unwant",.ref fw),("news",.ref fn),("here",.ref fh),("kept",.ref fk)] w'=some (.ref fh):=by simp only[look,if_neg k1,if_neg k2,if_neg k3,if_pos k4]
      have ef:FQ w' r=GY r:=by unfold FQ;rw[if_neg k1,if_neg k2,if_neg k3,if_pos k4]
      rw[el];exact EK ⟨_,rfl,a,_,0,_,rfl,rfl,SqT.of ha,Ga,aF,w',_,_,rfl,rfl,Fo.d,el,fin fh GY ef K3 ⟨_,F3.mono (by decide),B3⟩⟩
    by_cases k5:w'="kept"
    · have el:look [("want",V.ref fw),("unwant",.ref fw),("news",.ref fn),("here",.ref fh),("kept",.ref fk)] w'=some (.ref fk):=by simp only[look,if_neg k1,if_neg k2,if_neg k3,if_neg k4,if_pos k5]
      have ef:FQ w' r=HD r:=by unfold FQ;rw[if_neg k1,if_neg k2,if_neg k3,if_neg k4,if_pos k5]
      rw[el];exact EK ⟨_,rfl,a,_,0,_,rfl,rfl,SqT.of ha,Ga,aF,w',_,_,rfl,rfl,Fo.d,el,fin fk HD ef K4 ⟨_,F4.mono (by decide),B4⟩⟩
    have el:look [("want",V.ref fw),("unwant",.ref fw),("news",.ref fn),("here",.ref fh),("kept",.ref fk)] w'=none:=by simp only[look,if_neg k1,if_neg k2,if_neg k3,if_neg k4,if_neg k5]
    have ef:FQ w' r=false:=by unfold FQ;rw[if_neg k1,if_neg k2,if_neg k3,if_neg k4,if_neg k5]
    rw[el];rw[ef] at q;exact EL (q _ (Same.refl _))
 | _=>exact⟨_,rfl,_,_,"tuple",false,rfl,hd.ty,rfl,_,rfl,EL (q _ (Same.refl _))⟩
theorem Sw(F:Fun K "_law_pile" "_law_pile" Mp f fd)  :FnOk P w K mg base Fe 1 f fd ["script"] (NJ K):=by
 refine F.ok SH (λvs H Q E h=>?_) (λcdv A outer s H vs Q E hr h=>?_)
 · obtain⟨a,ns,rfl,hS,h63,q⟩:=h;rfl
 obtain⟨a,ns,rfl,hS,h63,q⟩:=h;refine⟨_,(ES (EV (Gk (EJ (Jq Pf rfl B.list_ Oi (EJ (pv 0) EM)) (EJ EN (EJ EN (EJ EN EM))))))),?_⟩;refine⟨_,rfl,a,_,rfl,.inl hS,λl hl=>?_⟩;have s1:=EW hl (.lst (ns.map V.int));have c1:(EO H l (.lst (ns.map V.int))) l=some (.lst (ns.map V.int)):=EU;generalize EO H l (.lst (ns.map V.int))=H1 at*;refine⟨Jx,λb hb=>?_⟩;have s2:=EW hb (.lst [V.ref l,V.int 0,V.int 0,V.int 161803]);exact q b l _ ⟨⟨ns,0,0,161803,EU,s2 _ _ c1,h63,by decide,by decide,by decide,by decide,by decide⟩,λe=>by rw[e,c1] at hb;cases hb⟩ (s1.trans s2) (s1.free hb)
theorem Sz(F:Fun K "_law_take" "_law_take" Mr f fd)  :FnOk P w K mg base Fe 1 f fd ["pile","many"] (JV):=by
 refine F.ok DF (λvs H Q E h=>?_) (λcdv A outer s H vs Q E hr h=>?_)
 · obtain⟨b,l,n,many,rfl,Bg,hn,hm,hm2,q⟩:=h;rfl
 obtain⟨b,l,n,many,rfl,Bg,hn,hm,hm2,q⟩:=h;refine⟨_,(EQ (Fj (Fq Ho (Fc FU (pv 0) EN (λ_ _=>rfl)) EN (Fd _)) (EQ (Ff (i:=2) DF.nd rfl (Or.inl rfl) (EX Ik (Fc FU (pv 0) EN (λ_ _=>rfl)) (pv 1)))
  (EQ (II (EX LZ (Fc FU (pv 0) EN (λ_ _=>rfl)) (pv 1)) (KA (pv 0) EN KO))
  (ES (EV (pv 2))))) Fi)
  (EQ (Ff (i:=3) DF.nd rfl (Or.inl rfl) EN)
  (EQ (Fj (Fq HZ (Fc FU (pv 0) EN (λ_ _=>rfl)) (Fb Gj rfl B.len_ FP (EJ (Fc FU (pv 0) EN (λ_ _=>rfl)) EM)) (Fd _)) (ES (Ff (i:=3) DF.nd rfl (Or.inl rfl) (Fc FU (Fc FU (pv 0) EN (λ_ _=>rfl)) (Fc FU (pv 0) EN (λ_ _=>rfl)) (λ_ _=>rfl)))) Fi)
  (EQ (II (EX Gd (Fc FU (pv 0) EN (λ_ _=>rfl)) EN) (KA (pv 0) EN KO))
  (EQ (Fj (Fq L9 (pv 3) (EX Hc EN EN) (Fd _)) (EQ (II (EX LZ (EX IH (pv 3) (EX Hc EN EN)) (pv 1)) (KA (pv 0) EN KO))
  (ES (EV (EX Ik (EX IH (pv 3) (EX Hc EN EN)) (pv 1))))) Fi)
  (EQ (Ff (i:=4) DF.nd rfl (Or.inl rfl) (EX Ik (EX Il (EX Gd (Fc FU (pv 0) EN (λ_ _=>rfl)) (EX Ik (pv 3) EN)) (EX Gd (EX Il EN (Fc FU (pv 0) EN (λ_ _=>rfl))) EN)) EN))
  (EQ (II (EX Ik (EX Gd (EX Il (pv 4) (pv 4)) (EX Il EN (Fc FU (pv 0) EN (λ_ _=>rfl)))) EN) (KA (pv 0) EN KO))
  (ES (EV (EX Ik (EX LZ (Fc FU (pv 0) EN (λ_ _=>rfl)) EN) (pv 1))))))))))),?_⟩
 obtain⟨ls,i,r,sd,e1,e2,z1,z2,z3,z4,z5,z6⟩:=id Bg.ex;have bl:=Bg.bl;refine⟨_,rfl,b,_,2,_,rfl,rfl,SqL.of e1,rfl,_,_,rfl,rfl,_,rfl,F7 (λh=>?_) (λh=>?_)⟩
 · refine⟨_,rfl,b,_,2,_,rfl,rfl,SqL.of e1,rfl,_,rfl,_,_,rfl,rfl,hm,?_⟩;refine⟨_,rfl,b,_,2,_,rfl,rfl,SqL.of e1,rfl,_,rfl,_,_,rfl,rfl,⟨hm,Int.lt_of_lt_of_le hm2 (by decide)⟩,_,rfl,b,_,2,2,rfl,rfl,e1,rfl,?_⟩;exact⟨_,rfl,q _ _ (Bv _ (by omega)) (Bn _ hm) ⟨⟨ls,i,r / many,sd,EU,by rw[Fz bl.symm];exact e2,z1,z2,by omega,Int.ediv_nonneg z4 (by omega),z5,z6⟩,bl⟩ (λa o h1 h2 _=>by rw[Fz h2];exact h1)⟩
 refine MZ ?_;dsimp only;refine Oo ?_;refine JO ?_;refine Mb (λσ' H'=>∃cell:Int,σ'=[some (.ref b),some (.int many),none,some (.int cell),none]∧H'=H) (λZ hZ=>?_) ?_
 · refine⟨_,rfl,b,_,1,_,rfl,rfl,SqL.of e1,rfl,_,rfl,b,_,0,_,rfl,rfl,SqL.of e1,rfl,l,_,rfl,.inl (SqL.of e2),_,_,rfl,rfl,_,rfl,F7 (λh=>?_) (λh=>hZ _ _ ⟨0,rfl,rfl⟩)⟩;have h:=of_decide_eq_true h;obtain⟨v,hv,_⟩:=Qa (ls:=ls) z2 (by rw[Ab] at h;exact h);exact⟨_,rfl,b,_,0,_,rfl,rfl,SqL.of e1,rfl,_,rfl,b,_,1,_,rfl,rfl,SqL.of e1,rfl,l,_,_,_,rfl,rfl,SqL.of e2,hv,hZ _ _ ⟨v,rfl,rfl⟩⟩
 rintro σ' H1 ⟨cell,rfl,rfl⟩;refine⟨_,rfl,b,_,1,_,rfl,rfl,SqL.of e1,rfl,_,_,rfl,rfl,_,rfl,b,_,1,1,rfl,rfl,e1,rfl,?_⟩;have f1:(EO H1 b (.lst ([V.ref l,V.int i,V.int r,V.int sd].set 1 (V.int (i+1))))) b=some (.lst [V.ref l,V.int (i+1),V.int r,V.int sd]):=EU;have f2:(EO H1 b (.lst ([V.ref l,V.int i,V.int r,V.int sd].set 1 (V.int (i+1))))) l=some (.lst (ls.map V.int)):=by rw[Fz bl.symm];exact e2
 have S2:Fh b H1 (EO H1 b (.lst ([V.ref l,V.int i,V.int r,V.int sd].set 1 (V.int (i+1))))):=λa o h1 h2 _=>by rw[Fz h2];exact h1
 dsimp only;generalize EO H1 b (.lst ([V.ref l,V.int i,V.int r,V.int sd].set 1 (V.int (i+1))))=H2 at*;have e18:(10:Int)^(18:Int).toNat=1000000000000000000:=by decide
 refine⟨_,rfl,_,_,rfl,rfl,Gh (by decide) (by decide),_,_,rfl,rfl,_,rfl,F7 (λh=>?_) (λh=>?_)⟩
 · have h:=of_decide_eq_true h;rw[e18] at h;refine⟨_,rfl,_,_,rfl,rfl,Gh (by decide) (by decide),_,_,rfl,rfl,_,rfl,_,_,rfl,rfl,⟨hm,Int.lt_of_lt_of_le hm2 (by decide)⟩,_,rfl,b,_,2,2,rfl,rfl,f1,rfl,?_⟩;refine⟨_,rfl,_,_,rfl,rfl,Gh (by decide) (by decide),_,_,rfl,rfl,_,rfl,_,_,rfl,rfl,hm,q _ _ (Bv _ (by omega)) (Bn _ hm) ⟨⟨ls,i+1,(cell - 10^(18:Int).toNat) / many,sd,EU,by rw[Fz bl.symm];exact f2,z1,by omega,by omega,Int.ediv_nonneg (by rw[e18];omega) (by omega),z5,z6⟩,bl⟩ (λa o h1 h2 h3=>by rw[Fz h2];exact S2 a o h1 h2 h3)⟩
 · have m0:=Bv cell (show(2147483587:Int)≠0 by decide);have m1:=Bn cell (show(0:Int)<2147483587 by decide);refine⟨_,rfl,b,_,3,_,rfl,rfl,SqL.of f1,rfl,_,rfl,_,_,rfl,rfl,(by show(0:Int)<2147483587;decide),_,_,rfl,rfl,_,rfl,b,_,1,_,rfl,rfl,SqL.of f1,rfl,_,_,rfl,rfl,.inl ⟨by decide,by decide⟩,_,_,rfl,rfl,_,_,rfl,rfl,.inl ⟨by omega,by omega⟩,_,_,rfl,rfl,(by show(0:Int)<2147483629;decide),?_⟩;dsimp only;generalize(sd+cell%2147483587)*(2*(i+1)+69621)=y;have y0:=Bv y (show(2147483629:Int)≠0 by decide);have y1:=Bn y (show(0:Int)<2147483629 by decide);generalize y%2147483629=u at*;refine⟨_,rfl,_,rfl,_,_,rfl,rfl,.inl ⟨by omega,by omega⟩,_,rfl,b,_,1,_,rfl,rfl,SqL.of f1,rfl,_,_,rfl,rfl,.inl ⟨by decide,by decide⟩,_,_,rfl,rfl,_,_,rfl,rfl,(by show(0:Int)<2147483563;decide),_,rfl,b,_,3,3,rfl,rfl,f1,rfl,?_⟩;dsimp only;generalize u*u+40692*(i+1)=v;have v0:=Bv v (show(2147483563:Int)≠0 by decide);have v1:=Bn v (show(0:Int)<2147483563 by decide);generalize v%2147483563=t at*;have f3:(EO H2 b (.lst ([V.ref l,V.int (i+1),V.int r,V.int sd].set 3 (V.int t)))) b=some (.lst [V.ref l,V.int (i+1),V.int r,V.int t]):=EU;refine⟨_,rfl,b,_,3,_,rfl,rfl,SqL.of f3,rfl,_,_,rfl,rfl,⟨by decide,by decide⟩,_,rfl,_,_,rfl,rfl,hm,?_⟩;exact q _ _ (Bv _ (by omega)) (Bn _ hm) ⟨⟨ls,i+1,r,t,f3,by rw[Fz bl.symm];exact f2,z1,by omega,by omega,z4,v0,by omega⟩,bl⟩ (λa o h1 h2 h3=>by rw[Fz h2];exact S2 a o h1 h2 h3)
theorem Th(F:Fun K "_law_texts" "_law_texts" Le f fd)(Er:Γ22 P w K mg base):FnOk P w K mg base Fe 2 f fd ["pile","many"] (Ny):=by
 refine F.ok DG (λvs H Q E h=>?_) (λcdv A outer s H vs Q E hr h=>?_)
 · obtain⟨b,l,n,m,rfl,Bg,hn,m1,m3,q⟩:=h;rfl
 obtain⟨b,l,n,m,rfl,Bg,hn,m1,m3,q⟩:=h;refine⟨_,(EQ (Ff (i:=2) DG.nd rfl (Or.inr rfl) Gm)
  (EQ (Ff (i:=3) DG.nd rfl (Or.inl rfl) (ET Er (hr.mono (by decide)) rfl (EJ (pv 0) (EJ EN EM))))
  (EQ (Ff (i:=4) DG.nd rfl (Or.inl rfl) (ET Er (hr.mono (by decide)) rfl (EJ (pv 0) (EJ EN EM))))
  (EQ (Ff (i:=5) DG.nd rfl (Or.inl rfl) (Gk EM))
  (EQ (Ff (i:=6) DG.nd rfl (Or.inl rfl) Gm)
  (EQ (GL AI rfl (Ip rfl B.range_ (EJ (pv 1) EM)) (Fw (i:=7) DG.nd rfl (Or.inl rfl)) (EQ (Fj (PW.pt (FJ (Fq Gb (pv 7) EN (Fd _)) (Gf (Fq Ho (pv 4) EN (Fd _))))) (EQ (Ff (i:=8) DG.nd rfl (Or.inl rfl) (Fc FU (Gk (EJ EN (EJ EN (EJ EN (EJ EN EM))))) (ET Er (hr.mono (by decide)) rfl (EJ (pv 0) (EJ EN EM))) (λ_ _=>rfl)))
  (ES (Ff (i:=6) DG.nd rfl (Or.inl rfl) (K5 Du PySem.F.slot_str_join PySem.F.type_str_join QT Gm (EJ (G8 (N':=["sign","pile","letters"]) (js:=[none,some 0,some 2]) rfl (G7 (N:=["pile","many","letters","last","turn","found","head","k","size","sign"]) (outer:=Fa Le) (by decide+kernel)) (Ip rfl B.range_ (EJ (pv 8) EM)) (λ_ _ _ _ _=>(Fw (i:=0) Nb rfl (Or.inl rfl))) (λ_ _ _ _ _=>Hb) (λ_ _ _ _ _=>(Fc LB (pv 2) (ET Er (hr.mono (by decide)) rfl (EJ (pv 1) (EJ EN EM))) (λ_ _=>rfl)))) EM))))) Fi)
  (EQ (Ff (i:=9) DG.nd rfl (Or.inl rfl) (Fc LB (pv 2) (EX Ik (EX Gd (pv 3) (EX Il EN (pv 7))) EN) (λ_ _=>rfl)))
  (ES (LN (K5 Cg Cc Cd KU (pv 5) (EJ (Fc FU (Gk (EJ (EX Iq (pv 6) (pv 9)) (EJ (EX Iq (pv 9) (pv 6)) EM))) (EX Ik (pv 4) EN) (λ_ _=>rfl)) EM)))))))
  (ES (EV (pv 5))))))))),?_⟩
 refine Oo ?_;refine JO ?_;refine⟨_,rfl,b,l,_,26,rfl,Bg,by omega,by decide,by decide,λlast H1 a0 a1 B1 S1=>?_⟩;refine⟨_,rfl,b,l,_,4,rfl,B1,by omega,by decide,by decide,λturn H2 t0 t1 B2 S2=>?_⟩;refine⟨HC,λr hr'=>?_⟩;have s3:=EW hr' (.lst []);have c3:(EO H2 r (.lst [])) r=some (.lst []):=EU;obtain⟨rb,rl⟩:=B2.free hr';have B3:=B2.same s3;have S3:Fh b H (EO H2 r (.lst [])):=(S1.trans S2).trans s3.sameB;have nr:H r=none:=(S1.trans S2).none hr' rb rb;generalize EO H2 r (.lst [])=H3 at*;refine⟨_,rfl,_,rfl,by omega,by omega,IN (lo:=0) (n:=((m:Int)).toNat) (λi σ H'=>(∃(hd:Str)(y7 y8 y9:Option V),σ=[some (.ref b),some (.int (m:Int)),some (.str "abcdefghijklmnopqrstuvwxyz"),some (.int last),some (.int turn),some (.ref r),some (.str hd),y7,y8,y9]∧HW 7 hd)∧Fh b H H'∧Pile H' b l (n+2+10*(i:Int))∧∃ts:List Str,H' r=some (.lst (ts.map V.str))∧ts.length=i∧(∀x∈ts,FieldOk x)∧∀(j:Nat)x,ts[j]?=some x→He turn x=some (97+((last+9*(j:Int))%26).toNat)) ⟨⟨"",none,none,none,rfl,BA _,λc hc=>by cases hc⟩,S3,B3.mono (by omega),[],c3,rfl,λx hx=>by simp at hx,λj x hx=>by simp at hx⟩ ?_ ?_⟩
 · rintro i σ H4 hi ⟨⟨hd,y7,y8,y9,rfl,lh⟩,S4,B4,ts,e4,lt,ft,tg⟩;have hM:((m:Int)).toNat=m:=rfl;refine JO ?_;refine Mb (λσ' H'=>∃(hd:Str)(y8:Option V),σ'=[some (.ref b),some (.int (m:Int)),some (.str "abcdefghijklmnopqrstuvwxyz"),some (.int last),some (.int turn),some (.ref r),some (.str hd),some (.int (0+(i:Int))),y8,y9]∧HW 7 hd∧Fh b H4 H'∧Pile H' b l (n+2+10*(i:Int)+9)) (λZ hZ=>?_) ?_
   · refine Qg (λR k=>⟨_,rfl,rfl,_,rfl,F7 (λ_=>k _) (λ_=>⟨_,rfl,_,_,rfl,rfl,_,rfl,k _⟩)⟩) ?_ (hZ _ _ ⟨hd,y8,rfl,lh,SameB.refl _ _ _,B4.mono (by omega)⟩);refine⟨Jx,λp hp=>?_⟩;have s5:=EW hp (.lst [V.int 0,V.int 1,V.int 3,V.int 7]);have c5:(EO H4 p (.lst [V.int 0,V.int 1,V.int 3,V.int 7])) p=some (.lst [V.int 0,V.int 1,V.int 3,V.int 7]):=EU;obtain⟨pb,pl⟩:=B4.free hp;have B5:=B4.same s5;have S5:Fh b H4 (EO H4 p (.lst [V.int 0,V.int 1,V.int 3,V.int 7])):=s5.sameB;generalize EO H4 p (.lst [V.int 0,V.int 1,V.int 3,V.int 7])=H5 at*;refine⟨_,rfl,b,l,_,4,rfl,B5,by omega,by decide,by decide,λk H6 k0 k1 B6 S6=>?_⟩;obtain⟨v,hv,v0,v1⟩:∃v,F_ [V.int 0,V.int 1,V.int 3,V.int 7] k=some (.int v)∧0≤v∧v≤7:=by
      have:k=0∨k=1∨k=2∨k=3:=by omega
      rcases this with rfl | rfl | rfl | rfl
      · exact⟨0,rfl,by decide,by decide⟩
      · exact⟨1,rfl,by decide,by decide⟩
      · exact⟨3,rfl,by decide,by decide⟩
      · exact⟨7,rfl,by decide,by decide⟩
     refine⟨p,_,_,_,rfl,rfl,SqL.of (S6 _ _ c5 pb pb),hv,?_⟩;refine⟨rfl,_,rfl,_,rfl,by omega,by omega,λp2 hp2=>?_⟩;obtain⟨qb,ql⟩:=B6.free hp2;have s7:=EW hp2 (.lst []);have S46:=S5.trans S6;have n2:H4 p2=none:=S46.none hp2 qb qb;refine R5 (n:=v.toNat) (λj σ' ys H'=>(∃v,σ'=[v,some (.ref b),some (.str "abcdefghijklmnopqrstuvwxyz")])∧Fh b H4 H'∧Pile H' b l (n+2+10*(i:Int)+1+j)∧H' p2=some (.lst ys)∧∃cs:List Nat,ys=(cs.map λc=>(⟨#[c]⟩:Str)).map V.str∧cs.length=j∧∀c∈cs,FR c=true) ⟨⟨none,rfl⟩,S46.trans s7.sameB,(B6.same s7).mono (by omega),EU,[],rfl,rfl,λc hc=>by simp at hc⟩ ?_ ?_ ?_
     · rintro j σ' ys H' hj ⟨_,_,_,h1,cs,rfl,h2,_⟩;exact⟨h1,by rw[Ab,Ab,h2];exact G2 (by omega)⟩
     · rintro j σ' ys H7 N hj ⟨⟨w',rfl⟩,S7,B7,h1,cs,rfl,h2,h3⟩ hN;refine⟨_,rfl,_,rfl,b,l,_,26,rfl,B7,by omega,by decide,by decide,λk H8 k0 k1 B8 S8=>?_⟩;obtain⟨c,hc,ok⟩:=Pw k0 k1;have h5:=S8 _ _ h1 qb qb;refine⟨_,_,c,rfl,rfl,(by show 26≤Ak;decide),hc,h5,hN _ _ _ ⟨⟨_,rfl⟩,(S7.trans S8).off n2,(B8.off qb ql).mono (by omega),EU,cs++[c],by rw[Am,Am];rfl,by rw[Ai,h2];rfl,λc' hc'=>?_⟩⟩;rcases AC.mp hc' with z | z
       · exact h3 c' z
       · rw[Ao.mp z];exact ok
     · rintro σ' ys H7 ⟨_,S7,B7,h1,cs,rfl,h2,h3⟩;exact⟨_,_,_,rfl,rfl,SqL.of h1,QP cs (by omega),hZ _ _ ⟨_,_,rfl,R0 (by omega) h3,S7,B7.mono (by omega)⟩⟩
   rintro σ' H5 ⟨hd,y8,rfl,lh,S5,B5⟩;have e5:=S5 _ _ e4 rb rb;have m0:=Bv (last+9*(0+(i:Int))) (show(26:Int)≠0 by decide);have m1:=Bn (last+9*(0+(i:Int))) (show(0:Int)<26 by decide);refine⟨_,rfl,_,rfl,_,rfl,_,_,rfl,rfl,.inl ⟨by decide,by decide⟩,_,_,rfl,rfl,_,_,rfl,rfl,(by show(0:Int)<26;decide),_,_,_,rfl,rfl,(by show 26≤Ak;decide),Px m0 m1,?_⟩;generalize hc:97+((last+9*(0+(i:Int)))%26).toNat=c;have okc:FR c=true:=by rw[←hc];exact Ra (by omega)
   have wf:=SO lh (y:=⟨#[c]⟩) rfl okc;have l7:=lh.1;refine⟨_,rfl,.inl ⟨rfl,_,SqL.of e5⟩,_,rfl,_,rfl,_,_,rfl,rfl,FH (by show hd.length+1≤1000;omega),_,rfl,_,rfl,_,_,rfl,rfl,FH (by show 1+hd.length≤1000;omega),G6,λp hp=>?_⟩;have s6:=EW hp (.lst [V.str (hd++(⟨#[c]⟩:Str)),V.str ((⟨#[c]⟩:Str)++hd)]);have c6:(EO H5 p (.lst [V.str (hd++(⟨#[c]⟩:Str)),V.str ((⟨#[c]⟩:Str)++hd)])) p=some (.lst [V.str (hd++(⟨#[c]⟩:Str)),V.str ((⟨#[c]⟩:Str)++hd)]):=EU;have B6:=B5.same s6;have e6:=s6 _ _ e5;have S6:Fh b H (EO H5 p (.lst [V.str (hd++(⟨#[c]⟩:Str)),V.str ((⟨#[c]⟩:Str)++hd)])):=(S4.trans S5).trans s6.sameB;generalize EO H5 p (.lst [V.str (hd++(⟨#[c]⟩:Str)),V.str ((⟨#[c]⟩:Str)++hd)])=H6 at*;obtain⟨x,hx,fx,gx⟩:∃x,F_ [V.str (hd++(⟨#[c]⟩:Str)),V.str ((⟨#[c]⟩:Str)++hd)] (turn%2)=some (V.str x)∧FieldOk x∧He turn x=some c:=by
    have:turn%2=0∨turn%2=1:=by omega
    rcases this with h | h
    · rw[h];refine⟨_,rfl,wf.1,?_⟩;unfold He;rw[if_pos h,KE,C3];rfl
    · rw[h];refine⟨_,rfl,wf.2,?_⟩;unfold He;rw[if_neg (by omega),KE];rfl
   refine⟨_,rfl,_,_,rfl,rfl,(by show(0:Int)<2;decide),p,_,_,_,rfl,rfl,SqL.of c6,hx,r,_,_,rfl,rfl,e6,(by rw[Ab];exact G2 (by omega)),?_⟩;refine⟨⟨hd,_,_,_,rfl,lh⟩,S6.off nr,(B6.off rb rl).mono (by omega),ts++[x],by rw[EU,Am];rfl,by rw[Ai,lt];rfl,λz hz=>?_,λj z hz=>?_⟩
   · rcases AC.mp hz with q | q
     · exact ft z q
     · rw[Ao.mp q];exact fx
   · by_cases hj:j<ts.length
     · rw[CP hj] at hz;exact tg j z hz
     · rw[CD (by omega)] at hz;have:j=ts.length:=by
        have:=(Az.mp hz).1;simp at this;omega
       subst this;simp at hz;subst hz;rw[gx,←hc,lt,Int.zero_add]
 · rintro σ H4 ⟨⟨hd,y7,y8,y9,rfl,lh⟩,S4,B4,ts,e4,lt,ft,tg⟩;have hM:((m:Int)).toNat=m:=rfl;exact⟨_,rfl,q r ts H4 nr e4 (by omega) ft (RQ (by omega) tg) (B4.mono (by omega)) S4⟩
theorem SW(F:Fun K "_law_number" "_law_number" Mj f fd)(Er:Γ22 P w K mg base):FnOk P w K mg base Fe 2 f fd ["pile"] (JZ):=by
 refine F.ok DH (λvs H Q E h=>?_) (λcdv A outer s H vs Q E hr h=>?_)
 · obtain⟨b,l,n,rfl,Bg,hn,q⟩:=h;rfl
 obtain⟨b,l,n,rfl,Bg,hn,q⟩:=h;refine⟨_,(EQ (Fj (Fq Gb (ET Er (hr.mono (by decide)) rfl (EJ (pv 0) (EJ EN EM))) EN (Fd _)) (EQ (Ff (i:=1) DH.nd rfl (Or.inl rfl) (EX Il (ET Er (hr.mono (by decide)) rfl (EJ (pv 0) (EJ (EX Hc EN EN) EM))) (EX Hc EN EN)))
  (EQ (Ff (i:=1) DH.nd rfl (Or.inl rfl) (EX Gd (EX Gd (pv 1) (EX Il (ET Er (hr.mono (by decide)) rfl (EJ (pv 0) (EJ (EX Hc EN EN) EM))) (EX Hc EN EN))) (ET Er (hr.mono (by decide)) rfl (EJ (pv 0) (EJ (EX Hc EN EN) EM)))))
  (ES (EV (EX Il (pv 1) (Fc FU (Gk (EJ EN (EJ (JC JD EN) EM))) (ET Er (hr.mono (by decide)) rfl (EJ (pv 0) (EJ EN EM))) (λ_ _=>rfl))))))) Fi)
  (ES (EV (EX IH (ET Er (hr.mono (by decide)) rfl (EJ (pv 0) (EJ EN EM))) EN)))),?_⟩
 refine⟨_,rfl,b,l,_,6,rfl,Bg,by omega,by decide,by decide,λc0 H1 _ _ B1 S1=>⟨rfl,_,rfl,F7 (λ_=>?_) (λ_=>?_)⟩⟩
 · refine⟨_,rfl,_,_,rfl,rfl,Gh (by decide) (by decide),b,l,_,_,rfl,B1,by omega,(by decide),(by decide),λf1 H2 f10 f11 B2 S2=>⟨_,_,rfl,rfl,Gh (by decide) (by decide),_,_,rfl,rfl,.inr ⟨by decide,by decide⟩,?_⟩⟩;refine⟨_,rfl,_,rfl,_,_,rfl,rfl,Gh (by decide) (by decide),b,l,_,_,rfl,B2,by omega,(by decide),(by decide),λf2 H3 f20 f21 B3 S3=>⟨_,_,rfl,rfl,Gh (by decide) (by decide),_,_,rfl,rfl,.inr ⟨by decide,by decide⟩,_,_,rfl,rfl,?_⟩⟩;refine⟨_,rfl,_,_,rfl,rfl,Gh (by decide) (by decide),b,l,_,_,rfl,B3,by omega,(by decide),(by decide),λf3 H4 f30 f31 B4 S4=>⟨_,_,rfl,rfl,?_⟩⟩;refine⟨_,rfl,_,rfl,G6,λp hp=>?_⟩;have s5:=EW hp (.lst [V.int 1,V.int (-1)]);have c5:(EO H4 p (.lst [V.int 1,V.int (-1)])) p=some (.lst [V.int 1,V.int (-1)]):=EU;obtain⟨pb,pl⟩:=B4.free hp;have B5:=B4.same s5;have S5:Fh b H4 (EO H4 p (.lst [V.int 1,V.int (-1)])):=s5.sameB;generalize EO H4 p (.lst [V.int 1,V.int (-1)])=H5 at*;refine⟨_,rfl,b,l,_,2,rfl,B5,by omega,by decide,by decide,λk H6 k0 k1 B6 S6=>?_⟩;obtain⟨v,hv,v0,v1⟩:∃v,F_ [V.int 1,V.int (-1)] k=some (.int v)∧ -1≤v∧v≤1:=by
    have:k=0∨k=1:=by omega
    rcases this with rfl | rfl
    · exact⟨1,rfl,by decide,by decide⟩
    · exact⟨-1,rfl,by decide,by decide⟩
   exact⟨p,_,_,_,rfl,rfl,SqL.of (S6 _ _ c5 pb pb),hv,_,_,rfl,rfl,.inr ⟨by omega,by omega⟩,q _ _ (B6.mono (by omega)) (S1.trans (S2.trans (S3.trans (S4.trans (S5.trans S6)))))⟩
 · exact⟨_,rfl,b,l,_,9,rfl,B1,by omega,by decide,by decide,λr H2 _ _ B2 S2=>⟨_,_,rfl,rfl,q _ _ (B2.mono (by omega)) (S1.trans S2)⟩⟩
theorem SA(F:Fun K "_law_wish" "_law_wish" Ms f fd)(Er:Γ22 P w K mg base)(Es:Γ24 P w K mg base):FnOk P w K mg base Fe 3 f fd ["pile","fields"] (KC GF):=by
 refine F.ok DI (λvs H Q E h=>?_) (λcdv A outer s H vs Q E hr h=>?_)
 · obtain⟨b,l,a,n,fs,rfl,Bg,hn,Fs,q⟩:=h;rfl
 obtain⟨b,l,a,n,fs,rfl,Bg,hn,Fs,q⟩:=h;refine⟨_,(EQ (Ff (i:=2) DI.nd rfl (Or.inl rfl) (FW EM))
  (EQ (GL AI rfl (KI (pv 1)) (Fw (i:=3) DI.nd rfl (Or.inl rfl)) (EQ (Ff (i:=4) DI.nd rfl (Or.inl rfl) (ET Er (hr.mono (by decide)) rfl (EJ (pv 0) (EJ EN EM))))
  (ES (Fj (Fq Ho (pv 4) EN (Fd _)) (EQ (Ff (i:=5) DI.nd rfl (Or.inl rfl) (ET Es (hr.mono (by decide)) rfl (EJ (pv 0) EM)))
  (EQ (Ff (i:=6) DI.nd rfl (Or.inl rfl) (EX Gd (pv 5) (ET Er (hr.mono (by decide)) rfl (EJ (pv 0) (EJ EN EM)))))
  (EQ (Ff (i:=7) DI.nd rfl (Or.inl rfl) (Gk (EJ (FW (EJ Im (EJ Im EM))) (EJ (FW (EJ (pv 5) (EJ Im EM))) (EJ (FW (EJ Im (EJ (pv 5) EM))) (EJ (FW (EJ (pv 5) (EJ (pv 5) EM))) (EJ (FW (EJ (pv 5) (EJ (pv 6) EM))) EM)))))))
  (ES (Ff (i:=2) DI.nd rfl (Or.inl rfl) (EX GQ (pv 2) (FW (EJ (EX GQ (FW (EJ (pv 3) EM)) (Fc FU (pv 7) (EX IH (pv 4) EN) (λ_ _=>rfl))) EM)))))))) Fi))))
  (ES (EV (pv 2))))),?_⟩
 obtain⟨ha,ab,l3,okf,ascf⟩:=Fs;refine⟨HC,λwt hwt=>?_⟩;have s0:=EW hwt (.tup []);have c0:(EO H wt (.tup [])) wt=some (.tup []):=EU;have B0:=Bg.same s0;have S0:Fh b H (EO H wt (.tup [])):=s0.sameB;have ha0:=s0 _ _ ha;generalize EO H wt (.tup [])=H0 at*;refine⟨_,rfl,a,rfl,⟨_,SqL.of ha0⟩,LX (K:=K) (a:=a) (xs:=fs.map V.str) (λi σ H'=>(∃(wt:Addr)(us:List (Addr×WP))(y3 y4 y5 y6 y7:Option V),σ=[some (.ref b),some (.ref a),some (.ref wt),y3,y4,y5,y6,y7]∧H' wt=some (.tup (us.map λu=>V.ref u.1))∧(∀u∈us,H' u.1=some (.tup [.str u.2.1,eV u.2.2.1,eV u.2.2.2])∧Jt u.2.2.1 u.2.2.2=true)∧((us.map (·.2)).map (·.1)).Sublist (fs.take i))∧Fh b H H'∧Pile H' b l (n+10*(i:Int))∧H' a=some (.lst (fs.map V.str))) ⟨⟨wt,[],none,none,none,none,none,rfl,c0,λu hu=>by simp at hu,List.nil_sublist _⟩,S0,B0.mono (by omega),ha0⟩ (λi σ H' _ ⟨_,_,_,z⟩=>SqL.of z) ?_ ?_⟩
 · rintro i x σ H1 hx ⟨⟨wt,us,y3,y4,y5,y6,y7,rfl,e1,u1,sb⟩,S1,B1,ha1⟩;rw[A5] at hx;cases ef:fs[i]? with
   | none=>rw[ef] at hx;cases hx
   | some fi=>
    rw[ef] at hx;obtain rfl:V.str fi=x:=A2 hx;have li:=(Az.mp ef).1;have tk:fs.take (i+1)=fs.take i++[fi]:=FS ef;have lu:us.length≤3:=by have:=sb.length_le;rw[Ab,Ab,A4] at this;omega
    refine⟨_,rfl,b,l,_,8,rfl,B1,by omega,by decide,by decide,λst H2 st0 st1 B2 S2=>?_⟩;have ha2:=S2 _ _ ha1 ab ab;have e2:=S2 _ _ e1 (Fy B1 e1) (Fy B1 e1);have u2:∀u∈us,H2 u.1=some (.tup [.str u.2.1,eV u.2.2.1,eV u.2.2.2])∧Jt u.2.2.1 u.2.2.2=true:=λu hu=>⟨S2 _ _ (u1 u hu).1 (Fy B1 (u1 u hu).1) (Fy B1 (u1 u hu).1),(u1 u hu).2⟩;refine⟨_,rfl,_,_,rfl,rfl,_,rfl,F7 (λh=>?_) (λh=>?_)⟩
    · have h:=of_decide_eq_true h;refine⟨_,rfl,b,l,_,rfl,B2,by omega,λone H3 B3 S3=>?_⟩;refine⟨_,rfl,_,rfl,b,l,_,6,rfl,B3,by omega,by decide,by decide,λo6 H4 o60 o61 B4 S4=>⟨_,_,rfl,rfl,?_⟩⟩;have S24:=S3.trans S4;refine⟨G6,λt1 ht1=>?_⟩;have q1:=EW ht1 (.tup [V.non,V.non]);have d1:(EO H4 t1 (.tup [V.non,V.non])) t1=some (.tup [V.non,V.non]):=EU;generalize EO H4 t1 (.tup [V.non,V.non])=J1 at*;refine⟨_,rfl,G6,λt2 ht2=>?_⟩;have q2:=EW ht2 (.tup [V.int one,V.non]);have d2:(EO J1 t2 (.tup [V.int one,V.non])) t2=some (.tup [V.int one,V.non]):=EU;generalize EO J1 t2 (.tup [V.int one,V.non])=J2 at*;refine⟨_,rfl,G6,λt3 ht3=>?_⟩;have q3:=EW ht3 (.tup [V.non,V.int one]);have d3:(EO J2 t3 (.tup [V.non,V.int one])) t3=some (.tup [V.non,V.int one]):=EU;generalize EO J2 t3 (.tup [V.non,V.int one])=J3 at*;refine⟨_,rfl,_,rfl,G6,λt4 ht4=>?_⟩;have q4:=EW ht4 (.tup [V.int one,V.int one]);have d4:(EO J3 t4 (.tup [V.int one,V.int one])) t4=some (.tup [V.int one,V.int one]):=EU;generalize EO J3 t4 (.tup [V.int one,V.int one])=J4 at*;refine⟨_,rfl,_,rfl,G6,λt5 ht5=>?_⟩;have q5:=EW ht5 (.tup [V.int one,V.int (one+o6)]);have d5:(EO J4 t5 (.tup [V.int one,V.int (one+o6)])) t5=some (.tup [V.int one,V.int (one+o6)]):=EU;generalize EO J4 t5 (.tup [V.int one,V.int (one+o6)])=J5 at*;refine⟨Kx,λpl hpl=>?_⟩;have q6:=EW hpl (.lst [V.ref t1,V.ref t2,V.ref t3,V.ref t4,V.ref t5]);have d6:(EO J5 pl (.lst [V.ref t1,V.ref t2,V.ref t3,V.ref t4,V.ref t5])) pl=some (.lst [V.ref t1,V.ref t2,V.ref t3,V.ref t4,V.ref t5]):=EU;generalize EO J5 pl (.lst [V.ref t1,V.ref t2,V.ref t3,V.ref t4,V.ref t5])=J6 at*;have sJ:=q1.trans (q2.trans (q3.trans (q4.trans (q5.trans q6))));obtain⟨ts,lo,hi,hts,gts,le⟩:∃(ts:Addr)(lo hi:Option Int),F_ [V.ref t1,V.ref t2,V.ref t3,V.ref t4,V.ref t5] (st - 3)=some (V.ref ts)∧J6 ts=some (.tup [eV lo,eV hi])∧Jt lo hi=true:=by
       have:st=3∨st=4∨st=5∨st=6∨st=7:=by omega
       rcases this with rfl | rfl | rfl | rfl | rfl
       · exact⟨t1,none,none,rfl,(q2.trans (q3.trans (q4.trans (q5.trans q6)))) _ _ d1,rfl⟩
       · exact⟨t2,some one,none,rfl,(q3.trans (q4.trans (q5.trans q6))) _ _ d2,rfl⟩
       · exact⟨t3,none,some one,rfl,(q4.trans (q5.trans q6)) _ _ d3,rfl⟩
       · exact⟨t4,some one,some one,rfl,(q5.trans q6) _ _ d4,decide_eq_true (Int.le_refl _)⟩
       · exact⟨t5,some one,some (one+o6),rfl,q6 _ _ d5,decide_eq_true (by omega)⟩
      refine⟨_,rfl,_,rfl,IB,λt7 ht7=>?_⟩;have q7:=EW ht7 (.tup [V.str fi]);have d7:(EO J6 t7 (.tup [V.str fi])) t7=some (.tup [V.str fi]):=EU;generalize EO J6 t7 (.tup [V.str fi])=J7 at*;refine⟨_,rfl,_,rfl,_,_,rfl,rfl,pl,_,_,_,rfl,rfl,SqL.of (q7 _ _ d6),hts,t7,ts,_,_,rfl,rfl,d7,q7 _ _ gts,Jy,λt8 J8 q8 d8=>?_⟩;refine⟨IB,λt9 ht9=>?_⟩;have q9:=EW ht9 (.tup [V.ref t8]);have d9:(EO J8 t9 (.tup [V.ref t8])) t9=some (.tup [V.ref t8]):=EU;generalize EO J8 t9 (.tup [V.ref t8])=J9 at*;have sK:=sJ.trans (q7.trans (q8.trans q9));have S29:Fh b H2 J9:=S24.trans sK.sameB;have e9:=S29 _ _ e2 (Fy B2 e2) (Fy B2 e2);refine⟨wt,t9,_,_,rfl,rfl,e9,d9,(by rw[Ab];exact FH (by show us.length+1≤1000;omega)),λw2 J10 q10 d10=>?_⟩;have S210:Fh b H2 J10:=S29.trans q10.sameB;refine⟨⟨w2,us++[(t8,fi,lo,hi)],_,_,_,_,_,rfl,by rw[d10,Am];rfl,λu hu=>?_,?_⟩,(S1.trans S2).trans S210,((B4.same sK).same q10).mono (by omega),S210 _ _ ha2 ab ab⟩
      · rcases AC.mp hu with z | z
        · exact⟨S210 _ _ (u2 u z).1 (Fy B2 (u2 u z).1) (Fy B2 (u2 u z).1),(u2 u z).2⟩
        · rw[Ao.mp z];exact⟨q10 _ _ (q9 _ _ d8),le⟩
      · rw[Am,Am,tk];exact sb.append (List.Sublist.refl _)
    · exact⟨⟨wt,us,_,_,_,_,_,rfl,e2,u2,by rw[tk];exact sb.trans (C_ _ _)⟩,S1.trans S2,B2.mono (by omega),ha2⟩
 · rintro σ H1 ⟨⟨wt,us,y3,y4,y5,y6,y7,rfl,e1,u1,sb⟩,S1,B1,ha1⟩;rw[Ab,BQ] at sb;have okw:∀p∈us.map (·.2),FieldOk p.1∧Jt p.2.1 p.2.2=true:=λp hp=>by
    obtain⟨u,hu,rfl⟩:=AY.mp hp;exact⟨okf _ (sb.subset (Bd (Bd hu))),(u1 u hu).2⟩
   have lu:us.length≤3:=by have:=sb.length_le;rw[Ab,Ab] at this;omega
   obtain⟨g1,g2'⟩:=Sd (by rw[Ab];exact lu) okw (ascf.sublist sb);refine⟨_,rfl,q _ _ H1 (GR (HY e1 (Fy B1 e1)) (O0 B1 us λu hu=>⟨(u1 u hu).1,(okw u.2 (Bd hu)).1⟩) (by rw[Ab];omega)) g1 g2' (B1.mono (by rw[Ab];omega)) S1⟩
theorem Tf(F:Fun K "_law_piece" "_law_piece" Mh f fd)(Er:Γ22 P w K mg base)(Es:Γ24 P w K mg base):FnOk P w K mg base Fe 3 f fd ["pile","fields"] (KC G0):=by
 refine F.ok DJ (λvs H Q E h=>?_) (λcdv A outer s H vs Q E hr h=>?_)
 · obtain⟨b,l,a,n,fs,rfl,Bg,hn,Fs,q⟩:=h;rfl
 obtain⟨b,l,a,n,fs,rfl,Bg,hn,Fs,q⟩:=h;refine⟨_,(EQ (Ff (i:=2) DJ.nd rfl (Or.inl rfl) (FW EM))
  (EQ (GL AI rfl (KI (pv 1)) (Fw (i:=3) DJ.nd rfl (Or.inl rfl)) (ES (Fj (Fq Ho (ET Er (hr.mono (by decide)) rfl (EJ (pv 0) (EJ EN EM))) EN (Fd _)) (ES (Ff (i:=2) DJ.nd rfl (Or.inl rfl) (EX GQ (pv 2) (FW (EJ (FW (EJ (pv 3) (EJ (ET Es (hr.mono (by decide)) rfl (EJ (pv 0) EM)) EM))) EM))))) Fi)))
  (ES (EV (pv 2))))),?_⟩
 obtain⟨ha,ab,l3,okf,ascf⟩:=Fs;refine⟨HC,λwt hwt=>?_⟩;have s0:=EW hwt (.tup []);have c0:(EO H wt (.tup [])) wt=some (.tup []):=EU;have B0:=Bg.same s0;have S0:Fh b H (EO H wt (.tup [])):=s0.sameB;have ha0:=s0 _ _ ha;generalize EO H wt (.tup [])=H0 at*;refine⟨_,rfl,a,rfl,⟨_,SqL.of ha0⟩,LX (K:=K) (a:=a) (xs:=fs.map V.str) (λi σ H'=>(∃(wt:Addr)(us:List (Addr×PP))(y3:Option V),σ=[some (.ref b),some (.ref a),some (.ref wt),y3]∧H' wt=some (.tup (us.map λu=>V.ref u.1))∧(∀u∈us,H' u.1=some (.tup [.str u.2.1,.int u.2.2]))∧((us.map (·.2)).map (·.1)).Sublist (fs.take i))∧Fh b H H'∧Pile H' b l (n+10*(i:Int))∧H' a=some (.lst (fs.map V.str))) ⟨⟨wt,[],none,rfl,c0,λu hu=>by simp at hu,List.nil_sublist _⟩,S0,B0.mono (by omega),ha0⟩ (λi σ H' _ ⟨_,_,_,z⟩=>SqL.of z) ?_ ?_⟩
 · rintro i x σ H1 hx ⟨⟨wt,us,y3,rfl,e1,u1,sb⟩,S1,B1,ha1⟩;rw[A5] at hx;cases ef:fs[i]? with
   | none=>rw[ef] at hx;cases hx
   | some fi=>
    rw[ef] at hx;obtain rfl:V.str fi=x:=A2 hx;have li:=(Az.mp ef).1;have tk:fs.take (i+1)=fs.take i++[fi]:=FS ef;have lu:us.length≤3:=by have:=sb.length_le;rw[Ab,Ab,A4] at this;omega
    refine⟨_,rfl,b,l,_,5,rfl,B1,by omega,by decide,by decide,λst H2 st0 st1 B2 S2=>?_⟩;have ha2:=S2 _ _ ha1 ab ab;have e2:=S2 _ _ e1 (Fy B1 e1) (Fy B1 e1);have u2:∀u∈us,H2 u.1=some (.tup [.str u.2.1,.int u.2.2]):=λu hu=>S2 _ _ (u1 u hu) (Fy B1 (u1 u hu)) (Fy B1 (u1 u hu));refine⟨_,_,rfl,rfl,_,rfl,F7 (λh=>?_) (λh=>?_)⟩
    · refine⟨_,rfl,_,rfl,_,rfl,b,l,_,rfl,B2,by omega,λone H3 B3 S3=>⟨G6,λt1 ht1=>?_⟩⟩;have q1:=EW ht1 (.tup [V.str fi,V.int one]);have d1:(EO H3 t1 (.tup [V.str fi,V.int one])) t1=some (.tup [V.str fi,V.int one]):=EU;generalize EO H3 t1 (.tup [V.str fi,V.int one])=J1 at*;refine⟨IB,λt2 ht2=>?_⟩;have q2:=EW ht2 (.tup [V.ref t1]);have d2:(EO J1 t2 (.tup [V.ref t1])) t2=some (.tup [V.ref t1]):=EU;generalize EO J1 t2 (.tup [V.ref t1])=J2 at*;have S22:Fh b H2 J2:=S3.trans (q1.trans q2).sameB;have e9:=S22 _ _ e2 (Fy B2 e2) (Fy B2 e2);refine⟨wt,t2,_,_,rfl,rfl,e9,d2,(by rw[Ab];exact FH (by show us.length+1≤1000;omega)),λw2 J3 q3 d3=>?_⟩;have S23:Fh b H2 J3:=S22.trans q3.sameB;refine⟨⟨w2,us++[(t1,fi,one)],_,rfl,by rw[d3,Am];rfl,λu hu=>?_,?_⟩,(S1.trans S2).trans S23,(((B3.same q1).same q2).same q3).mono (by omega),S23 _ _ ha2 ab ab⟩
      · rcases AC.mp hu with z | z
        · exact S23 _ _ (u2 u z) (Fy B2 (u2 u z)) (Fy B2 (u2 u z))
        · rw[Ao.mp z];exact q3 _ _ (q2 _ _ d1)
      · rw[Am,Am,tk];exact sb.append (List.Sublist.refl _)
    · exact⟨⟨wt,us,_,rfl,e2,u2,by rw[tk];exact sb.trans (C_ _ _)⟩,S1.trans S2,B2.mono (by omega),ha2⟩
 · rintro σ H1 ⟨⟨wt,us,y3,rfl,e1,u1,sb⟩,S1,B1,ha1⟩;rw[Ab,BQ] at sb;have okw:∀p∈us.map (·.2),FieldOk p.1:=λp hp=>okf _ (sb.subset (Bd hp));have lu:us.length≤3:=by
    have:=sb.length_le;rw[Ab,Ab] at this;omega
   obtain⟨g1,g2'⟩:=RI (by rw[Ab];exact lu) okw (ascf.sublist sb);refine⟨_,rfl,q _ _ H1 (GR (HY e1 (Fy B1 e1)) (Oz B1 us λu hu=>⟨u1 u hu,okw u.2 (Bd hu)⟩) (by rw[Ab];omega)) g1 g2' (B1.mono (by rw[Ab];omega)) S1⟩
theorem SX(F:Fun K "_law_rising" "_law_rising" Mk f fd)(Er:Γ22 P w K mg base):FnOk P w K mg base Fe 2 f fd ["pile","many"] (Nx):=by
 refine F.ok DK (λvs H Q E h=>?_) (λcdv A outer s H vs Q E hr h=>?_)
 · obtain⟨b,l,n,m,rfl,Bg,hn,hm,q⟩:=h;rfl
 obtain⟨b,l,n,m,rfl,Bg,hn,hm,q⟩:=h;refine⟨_,(EQ (Ff (i:=2) DK.nd rfl (Or.inl rfl) (Gk EM))
  (EQ (GL AI rfl (Ip rfl B.range_ (EJ (pv 1) EM)) (Fw (i:=3) DK.nd rfl (Or.inl rfl)) (EQ (Ff (i:=4) DK.nd rfl (Or.inl rfl) (Fc FU (Gk (EJ EN (EJ EN (EJ EN (EJ (EX Hc EN EN) (EJ (EX Hc EN EN) EM)))))) (ET Er (hr.mono (by decide)) rfl (EJ (pv 0) (EJ EN EM))) (λ_ _=>rfl)))
  (ES (LN (K5 Cg Cc Cd KU (pv 2) (EJ (EX Gd (EX Gd (Fb (Rx rfl) rfl B.sum_ Qd (EJ (FO LP (pv 2) (FL (JC JD EN)) FX) EM)) (Jq OK rfl B.int_ JJ (EJ (Gw Ho (pv 3) EN (Fd _)) EM))) (ET Er (hr.mono (by decide)) rfl (EJ (pv 0) (EJ (pv 4) EM)))) EM))))))
  (ES (EV (pv 2))))),?_⟩
 refine⟨HC,λr hr'=>?_⟩;have s0:=EW hr' (.lst []);have c0:(EO H r (.lst [])) r=some (.lst []):=EU;obtain⟨rb,rl⟩:=Bg.free hr';have B0:=Bg.same s0;have S0:Fh b H (EO H r (.lst [])):=s0.sameB;generalize EO H r (.lst [])=H0 at*;refine⟨_,rfl,_,rfl,by omega,by omega,IN (lo:=0) (n:=((m:Int)).toNat) (λi σ H'=>(∃y3 y4,σ=[some (.ref b),some (.int (m:Int)),some (.ref r),y3,y4])∧Fh b H H'∧Pile H' b l (n+4*(i:Int))∧∃ns:List Int,H' r=some (.lst (ns.map V.int))∧ns.length=i∧(∀x∈ns,0≤x)∧ns.Pairwise (· < ·)) ⟨⟨none,none,rfl⟩,S0,B0.mono (by omega),[],c0,rfl,λx hx=>by simp at hx,List.Pairwise.nil⟩ ?_ ?_⟩
 · rintro i σ H1 hi ⟨⟨y3,y4,rfl⟩,S1,B1,ns,e1,ln,pos,asc⟩;have hM:((m:Int)).toNat=m:=rfl;refine⟨_,_,rfl,rfl,Gh (by decide) (by decide),_,_,rfl,rfl,Gh (by decide) (by decide),Kx,λp hp=>?_⟩;dsimp only;have s2:=EW hp (.lst [V.int 3,V.int 3,V.int 3,V.int (10^(4:Int).toNat),V.int (10^(38:Int).toNat)]);have c2:(EO H1 p (.lst [V.int 3,V.int 3,V.int 3,V.int (10^(4:Int).toNat),V.int (10^(38:Int).toNat)])) p=some (.lst [V.int 3,V.int 3,V.int 3,V.int (10^(4:Int).toNat),V.int (10^(38:Int).toNat)]):=EU;obtain⟨pb,pl⟩:=B1.free hp;have B2:=B1.same s2;have S2:Fh b H1 (EO H1 p (.lst [V.int 3,V.int 3,V.int 3,V.int (10^(4:Int).toNat),V.int (10^(38:Int).toNat)])):=s2.sameB;have e2:=s2 _ _ e1;generalize EO H1 p (.lst [V.int 3,V.int 3,V.int 3,V.int (10^(4:Int).toNat),V.int (10^(38:Int).toNat)])=H2 at*;refine⟨_,rfl,b,l,_,5,rfl,B2,by omega,by decide,by decide,λk H3 k0 k1 B3 S3=>?_⟩;obtain⟨far,hv,v0,v1⟩:∃v,F_ [V.int 3,V.int 3,V.int 3,V.int (10^(4:Int).toNat),V.int (10^(38:Int).toNat)] k=some (.int v)∧0<v∧v<2^500:=by
    have:k=0∨k=1∨k=2∨k=3∨k=4:=by omega
    rcases this with rfl | rfl | rfl | rfl | rfl
    · exact⟨3,rfl,by decide,by decide⟩
    · exact⟨3,rfl,by decide,by decide⟩
    · exact⟨3,rfl,by decide,by decide⟩
    · exact⟨10^(4:Int).toNat,rfl,by decide,by decide⟩
    · exact⟨10^(38:Int).toNat,rfl,by decide,by decide⟩
   refine⟨p,_,_,_,rfl,rfl,SqL.of (S3 _ _ c2 pb pb),hv,?_⟩;have e3:=S3 _ _ e2 rb rb;refine⟨_,rfl,.inl ⟨rfl,_,SqL.of e3⟩,_,rfl,_,rfl,_,rfl,r,_,rfl,SqL.of e3,λp4 hp4=>?_⟩;rw[Q7];have s4:=EW hp4 (.lst ((ns.drop (ns.length - 1)).map V.int));have c4:(EO H3 p4 (.lst ((ns.drop (ns.length - 1)).map V.int))) p4=some (.lst ((ns.drop (ns.length - 1)).map V.int)):=EU;have B4:=B3.same s4;have S4:Fh b H3 (EO H3 p4 (.lst ((ns.drop (ns.length - 1)).map V.int))):=s4.sameB;have e4:=s4 _ _ e3;generalize EO H3 p4 (.lst ((ns.drop (ns.length - 1)).map V.int))=H4 at*;refine⟨p4,_,rfl,SqL.of c4,_,rfl,_,_,rfl,rfl,.inr ⟨_,rfl,_,_,rfl,rfl,?_⟩⟩;refine⟨_,rfl,_,rfl,b,l,_,far,rfl,B4,by omega,v0,v1,λt H5 t0 t1 B5 S5=>⟨_,_,rfl,rfl,?_⟩⟩;have e5:=S5 _ _ e4 rb rb;refine⟨r,_,_,rfl,rfl,e5,(by rw[Ab];exact G2 (by omega)),?_⟩;have St:=S1.trans (S2.trans (S3.trans (S4.trans S5)));refine⟨⟨_,_,rfl⟩,St.off hr',(B5.off rb rl).mono (by omega),ns++[(ns.drop (ns.length - 1)).sum+(if decide (0<0+(i:Int))=true then 1 else 0)+t],by rw[EU,Am];rfl,by rw[Ai,ln];rfl,?_,Rq asc ?_⟩
   · intro x hx;rcases AC.mp hx with z | z
     · exact pos x z
     · rw[Ao.mp z];have:0≤(ns.drop (ns.length - 1)).sum:=OV λy hy=>pos y (D6 hy)
       split<;>omega
   · cases ns with
     | nil=>exact .inl rfl
     | cons y ys=>
      refine .inr ?_;have:0<i:=by rw[←ln,Aw];omega
      rw[if_pos (decide_eq_true (by omega))];omega
 · rintro σ H1 ⟨⟨y3,y4,rfl⟩,S1,B1,ns,e1,ln,pos,asc⟩;have hM:((m:Int)).toNat=m:=rfl;exact⟨_,rfl,q r ns H1 hr' e1 (by omega) pos asc (B1.mono (by omega)) S1⟩
theorem Sy(F:Fun K "_law_size" "_law_size" Mq f fd)(Er:Γ22 P w K mg base):FnOk P w K mg base Fe 2 f fd ["pile","few"] (JX):=by
 refine F.ok SI (λvs H Q E h=>?_) (λcdv A outer s H vs Q E hr h=>?_)
 · obtain⟨b,l,n,rfl,Bg,hn,q⟩:=h;rfl
 obtain⟨b,l,n,rfl,Bg,hn,q⟩:=h;refine⟨_,(ES (EV (ET Er (hr.mono (by decide)) rfl (EJ (pv 0) (EJ (Fc FU (Gk (EJ (pv 1) (EJ (pv 1) (EJ (pv 1) (EJ EN EM))))) (ET Er (hr.mono (by decide)) rfl (EJ (pv 0) (EJ EN EM))) (λ_ _=>rfl)) EM))))),?_⟩;refine⟨_,rfl,_,rfl,_,rfl,_,rfl,Jx,λp hp=>?_⟩;have s1:=EW hp (.lst [V.int 4,V.int 4,V.int 4,V.int 39]);have c1:(EO H p (.lst [V.int 4,V.int 4,V.int 4,V.int 39])) p=some (.lst [V.int 4,V.int 4,V.int 4,V.int 39]):=EU;obtain⟨pb,pl⟩:=Bg.free hp;have B1:=Bg.same s1;have S1:Fh b H (EO H p (.lst [V.int 4,V.int 4,V.int 4,V.int 39])):=s1.sameB;generalize EO H p (.lst [V.int 4,V.int 4,V.int 4,V.int 39])=H1 at*;refine⟨_,rfl,b,l,_,4,rfl,B1,by omega,by decide,by decide,λk H2 k0 k1 B2 S2=>?_⟩;obtain⟨v,hv,v0,v1⟩:∃v,F_ [V.int 4,V.int 4,V.int 4,V.int 39] k=some (.int v)∧0<v∧v≤39:=by
  have:k=0∨k=1∨k=2∨k=3:=by omega
  rcases this with rfl | rfl | rfl | rfl
  · exact⟨4,rfl,by decide,by decide⟩
  · exact⟨4,rfl,by decide,by decide⟩
  · exact⟨4,rfl,by decide,by decide⟩
  · exact⟨39,rfl,by decide,by decide⟩
 exact⟨p,_,_,_,rfl,rfl,SqL.of (S2 _ _ c1 pb pb),hv,b,l,_,v,rfl,B2,by omega,v0,J0 (by omega),λr H3 r0 r1 B3 S3=>q r H3 r0 (by omega) (B3.mono (by omega)) ((S1.trans S2).trans S3)⟩
theorem Te(F:Fun K "_law_count" "_law_count" Mt f fd)(Er:Γ22 P w K mg base):FnOk P w K mg base Fe 2 f fd ["pile"] (Nu):=by
 refine F.ok Tl (λvs H Q E h=>?_) (λcdv A outer s H vs Q E hr h=>?_)
 · obtain⟨b,l,n,rfl,Bg,hn,q⟩:=h;rfl
 obtain⟨b,l,n,rfl,Bg,hn,q⟩:=h;refine⟨_,(ES (EV (ET Er (hr.mono (by decide)) rfl (EJ (pv 0) (EJ (Fc FU (Gk (EJ EN (EJ EN (EJ EN (EJ (EX Hc EN EN) EM))))) (ET Er (hr.mono (by decide)) rfl (EJ (pv 0) (EJ EN EM))) (λ_ _=>rfl)) EM))))),?_⟩;refine⟨_,rfl,_,_,rfl,rfl,Gh (by decide) (by decide),Jx,λp hp=>?_⟩;dsimp only;rw[TZ];have s1:=EW hp (.lst [V.int 30,V.int 30,V.int 30,V.int Hk]);have c1:(EO H p (.lst [V.int 30,V.int 30,V.int 30,V.int Hk])) p=some (.lst [V.int 30,V.int 30,V.int 30,V.int Hk]):=EU;obtain⟨pb,pl⟩:=Bg.free hp;have B1:=Bg.same s1;have S1:Fh b H (EO H p (.lst [V.int 30,V.int 30,V.int 30,V.int Hk])):=s1.sameB;generalize EO H p (.lst [V.int 30,V.int 30,V.int 30,V.int Hk])=H1 at*;refine⟨_,rfl,b,l,_,4,rfl,B1,by omega,by decide,by decide,λk H2 k0 k1 B2 S2=>?_⟩;obtain⟨v,hv,v0,v1⟩:∃v,F_ [V.int 30,V.int 30,V.int 30,V.int Hk] k=some (.int v)∧0<v∧v≤Hk:=by
  have:k=0∨k=1∨k=2∨k=3:=by omega
  rcases this with rfl | rfl | rfl | rfl
  · exact⟨30,rfl,by decide,by decide⟩
  · exact⟨30,rfl,by decide,by decide⟩
  · exact⟨30,rfl,by decide,by decide⟩
  · exact⟨Hk,rfl,by decide,by decide⟩
 exact⟨p,_,_,_,rfl,rfl,SqL.of (S2 _ _ c1 pb pb),hv,b,l,_,v,rfl,B2,by omega,v0,Int.lt_of_le_of_lt v1 (by decide),λr H3 r0 r1 B3 S3=>q r H3 r0 (B3.mono (by omega)) ((S1.trans S2).trans S3)⟩
theorem SV(F:Fun K "_law_letter" "_law_letter" Lh f fd)(Et:Γ27 P w K mg base)(Er:Γ22 P w K mg base)(Eu:Γ28 P w K mg base)(Ev:Γ25 P w K mg base)(Ew:Γ29 P w K mg base)(Ex:Γ26 P w K mg base):FnOk P w K mg base Fe 4 f fd ["pile","word","name","fields"] (Nw):=by
 refine F.ok DL (λvs H Q E h=>?_) (λcdv A outer s H vs Q E hr h=>?_)
 · obtain⟨b,l,a,n,word,x,fs,rfl,Bg,hn,w0,w5,ok,Fs,q⟩:=h;rfl
 obtain⟨b,l,a,n,word,x,fs,rfl,Bg,hn,w0,w5,ok,Fs,q⟩:=h;refine⟨_,(EQ (Fj (PW.pt (FJ (Fq Gb (pv 1) EN (Fd _)) (Gf (Fq Gb (pv 1) EN (Fd _))))) (ES (EV (FW (EJ (Fc FU (Gk (EJ Gm (EJ Gm EM))) (pv 1) (λ_ _=>rfl)) (EJ (ET Ev (hr.mono (by decide)) rfl (EJ (pv 0) (EJ (pv 3) EM))) EM))))) Fi)
  (EQ (Fj (Fq Gb (pv 1) EN (Fd _)) (ES (EV (FW (EJ Gm (EJ (ET Ew (hr.mono (by decide)) rfl (EJ (pv 0) EM)) (EJ (ET Ew (hr.mono (by decide)) rfl (EJ (pv 0) EM)) (EJ (ET Ex (hr.mono (by decide)) rfl (EJ (pv 0) (EJ (pv 3) EM))) EM))))))) Fi)
  (EQ (Ff (i:=4) DL.nd rfl (Or.inl rfl) (ET Et (hr.mono (by decide)) rfl (EJ (pv 0) (EJ (EX Gd EN (ET Eu (hr.mono (by decide)) rfl (EJ (pv 0) (EJ EN EM)))) EM))))
  (EQ (Ff (i:=5) DL.nd rfl (Or.inl rfl) (ET Er (hr.mono (by decide)) rfl (EJ (pv 0) (EJ (Fb Gj rfl B.len_ FP (EJ (pv 4) EM)) EM))))
  (EQ (Ff (i:=4) DL.nd rfl (Or.inl rfl) (Jq Pe rfl B.tuple_ Gc (EJ (EX K7 (FO LP (pv 4) (FL (pv 5)) FX) (FO LP (pv 4) FX (FL (pv 5)))) EM)))
  (EQ (Fj (Fq Gb (pv 1) EN (Fd _)) (ES (EV (FW (EJ Gm (EJ (pv 2) (EJ (pv 4) EM)))))) Fi)
  (EQ (Ff (i:=6) DL.nd rfl (Or.inl rfl) (Jq Pe rfl B.tuple_ Gc (EJ (G8 (N':=["teller","pile"]) (js:=[none,some 0]) rfl (G7 (N:=["pile","word","name","fields","posts","at","marks","pieces","k","teller","number"]) (outer:=Fa Lh) (by decide+kernel)) (KI (ET Et (hr.mono (by decide)) rfl (EJ (pv 0) (EJ (ET Eu (hr.mono (by decide)) rfl (EJ (pv 0) (EJ EN EM))) EM)))) (λ_ _ _ _ _=>(Fw (i:=0) Na rfl (Or.inl rfl))) (λ_ _ _ _ _=>Hb) (λ_ _ _ _ _=>(FW (EJ (pv 0) (EJ (ET Ew (hr.mono (by decide)) rfl (EJ (pv 1) EM)) EM))))) EM)))
  (EQ (Ff (i:=7) DL.nd rfl (Or.inl rfl) (FW EM))
  (EQ (GL AI rfl (Ip rfl B.range_ (EJ (ET Eu (hr.mono (by decide)) rfl (EJ (pv 0) (EJ EN EM))) EM)) (Fw (i:=8) DL.nd rfl (Or.inl rfl)) (EQ (Ff (i:=9) DL.nd rfl (Or.inl rfl) (ET Er (hr.mono (by decide)) rfl (EJ (pv 0) (EJ EN EM))))
  (EQ (Ff (i:=10) DL.nd rfl (Or.inl rfl) (ET Er (hr.mono (by decide)) rfl (EJ (pv 0) (EJ EN EM))))
  (ES (Ff (i:=7) DL.nd rfl (Or.inl rfl) (EX GQ (pv 7) (FW (EJ (FW (EJ (pv 9) (EJ (pv 10) (EJ (ET Ex (hr.mono (by decide)) rfl (EJ (pv 0) (EJ (pv 3) EM))) EM)))) EM))))))))
  (ES (EV (FW (EJ Gm (EJ (pv 2) (EJ (pv 4) (EJ (pv 6) (EJ (pv 7) EM))))))))))))))))),?_⟩
 have rs:∀(H':Hp)(y:Str),FieldOk y→RepY H' (.str y) (.str y):=λH' y h=>JN h;have lS:∀y:Str,FieldOk y→EZ (.str y)=true:=λy h=>by rw[EZ];exact HJ h
 have wf:∀y∈(["want","unwant","news","here","kept"]:List Str),FieldOk y:=λy hy=>OL (by rw[EZ];simp only[Aq,A8,or_false] at hy;rcases hy with rfl | rfl | rfl | rfl | rfl<;>decide+kernel)
 by_cases w01:word=0∨word=1
 · refine Op (c:=true) (λR k=>?_) (EL ?_)
   · rcases w01 with rfl | rfl
     · exact⟨_,rfl,rfl,_,rfl,EL k⟩
     · exact⟨_,rfl,rfl,_,rfl,EK ⟨_,rfl,rfl,_,rfl,k⟩⟩
   refine⟨G6,λp hp'=>?_⟩;have s1:=EW hp' (.lst [V.str "want",V.str "unwant"]);have B1:=Bg.same s1;obtain⟨y,hy,my,fy⟩:∃y:Str,F_ [V.str "want",V.str "unwant"] word=some (V.str y)∧FieldOk y∧∀d,FQ y [d]=GF d:=by
    rcases w01 with rfl | rfl
    · exact⟨"want",rfl,wf _ (by simp),λd=>rfl⟩
    · exact⟨"unwant",rfl,wf _ (by simp),λd=>rfl⟩
   refine⟨_,rfl,p,_,_,_,rfl,rfl,SqL.of EU,hy,_,rfl,_,rfl,b,l,a,_,fs,rfl,B1,by omega,Fs.sameP s1.sameB,λv d H2 rd gd ld B2 S2=>⟨G6,λt ht=>?_⟩⟩;refine q _ (.tup [.str y,d]) _ (Ii B2 ht (.cons (rs _ _ my) (.cons rd .nil)) (by show 2≤900;decide)) ((fy d).trans gd) (GG (by show 2≤100;decide) λe he=>?_) ((B2.same (EW ht _)).mono (by omega)) ((s1.sameB.trans S2).trans (EW ht _).sameB);rcases Aq.mp he with rfl | he
   · exact lS y my
   · rw[Ao.mp he];exact ld
 have w0:word≠0:=λz=>w01 (.inl z);have w1:word≠1:=λz=>w01 (.inr z);refine Op (c:=false) (λR k=>⟨_,rfl,rfl,_,rfl,?_⟩) (EK ?_)
 · rw[decide_eq_false (show ¬V.int word=V.int 0 from λz=>w0 (by injection z))];refine EK ⟨_,rfl,rfl,_,rfl,?_⟩;rw[decide_eq_false (show ¬V.int word=V.int 1 from λz=>w1 (by injection z))];exact k
 refine MZ ?_;dsimp only;by_cases w2:word=2
 · subst w2;refine⟨_,rfl,rfl,_,rfl,EL ?_⟩;refine⟨_,rfl,b,l,_,rfl,Bg,by omega,λc1 H1 c10 B1 S1=>?_⟩;refine⟨_,rfl,b,l,_,rfl,B1,by omega,λc2 H2 c20 B2 S2=>?_⟩;refine⟨_,rfl,_,rfl,b,l,a,_,fs,rfl,B2,by omega,(Fs.sameP S1).sameP S2,λv d H3 rd gd ld B3 S3=>⟨Jx,λt ht=>?_⟩⟩;refine q _ (.tup [.str "news",.int c1,.int c2,d]) _ (Ii B3 ht (.cons (rs _ _ (wf _ (by simp))) (.cons (Ih _) (.cons (Ih _) (.cons rd .nil)))) (by show 4≤900;decide)) ?_ (GG (by show 4≤100;decide) λe he=>?_) ((B3.same (EW ht _)).mono (by omega)) (((S1.trans S2).trans S3).trans (EW ht _).sameB)
   · show(decide (0≤c1) && (decide (0≤c2) && G0 d))=true;rw[decide_eq_true c10,decide_eq_true c20,gd];rfl
   · simp only[Aq,A8,or_false] at he;rcases he with rfl | rfl | rfl | rfl
     · exact lS _ (wf _ (by simp))
     · rw[EZ]
     · rw[EZ]
     · exact ld
 refine⟨_,rfl,rfl,_,rfl,?_⟩;rw[decide_eq_false (show ¬V.int word=V.int 2 from λz=>w2 (by injection z))];refine EK ?_;refine⟨_,rfl,_,rfl,b,l,_,rfl,Bg,by omega,λsz H1 Lm sz1 B1 S1=>⟨_,_,rfl,rfl,?_⟩⟩;obtain⟨k,rfl⟩:∃k:Nat,sz=(k:Int):=⟨sz.toNat,by omega⟩;have ek:(2:Int)+(k:Int)=((2+k:Nat):Int):=by omega
 refine⟨b,l,_,2+k,(by show [V.ref b,V.int ((2:Int)+(k:Int))]=_;rw[ek]),B1,by omega,by omega,λpr ns H2 n2 e2 ln pos asc B2 S2=>?_⟩;obtain⟨pb,pl⟩:=B1.free n2;refine⟨_,rfl,_,rfl,pr,_,rfl,.inl (SqL.of e2),b,l,_,_,rfl,B2,by omega,(by rw[Ab];omega),(by rw[Ab];exact J0 (by omega)),λat' H3 Ga at1 B3 S3=>?_⟩;obtain⟨j,rfl⟩:∃j:Nat,at'=(j:Int):=⟨at'.toNat,by omega⟩;have e3:=S3 _ _ e2 pb pb;refine⟨_,rfl,_,rfl,_,rfl,pr,_,rfl,SqL.of e3,λp1 hp1=>?_⟩;rw[NR,←List.map_drop];have q1:=EW hp1 (.lst ((ns.drop j).map V.int));have d1:(EO H3 p1 (.lst ((ns.drop j).map V.int))) p1=some (.lst ((ns.drop j).map V.int)):=EU;generalize EO H3 p1 (.lst ((ns.drop j).map V.int))=J1 at*;refine⟨_,rfl,_,rfl,_,rfl,pr,_,rfl,SqL.of (q1 _ _ e3),λp2 hp2=>?_⟩;rw[NS,←List.map_take];have q2:=EW hp2 (.lst ((ns.take j).map V.int));have d2:(EO J1 p2 (.lst ((ns.take j).map V.int))) p2=some (.lst ((ns.take j).map V.int)):=EU;generalize EO J1 p2 (.lst ((ns.take j).map V.int))=J2 at*;refine⟨p1,p2,_,_,rfl,rfl,q2 _ _ d1,d2,(by rw[Ab,Ab,AU,A4];exact FH (by omega)),λp3 hp3=>?_⟩;rw[←Am];have q3:=EW hp3 (.lst ((ns.drop j++ns.take j).map V.int));have d3:(EO J2 p3 (.lst ((ns.drop j++ns.take j).map V.int))) p3=some (.lst ((ns.drop j++ns.take j).map V.int)):=EU;generalize EO J2 p3 (.lst ((ns.drop j++ns.take j).map V.int))=J3 at*;refine⟨p3,_,rfl,.inl ⟨SqL.of d3,λpt hpt=>?_⟩⟩;have BJ:=((B3.same q1).same q2).same q3;have SJ:Fh b H J3:=((S1.trans S2).trans S3).trans (q1.trans (q2.trans q3)).sameB;obtain⟨wg,wl⟩:=Ru j (by omega) (by omega) pos asc;have rP:=Ii BJ hpt (O5 (H:=hp b J3) (ns.drop j++ns.take j)) (by rw[Ab,Ai,AU,A4];omega);have q4:=EW hpt (.tup ((ns.drop j++ns.take j).map V.int));have B4:=BJ.same q4;have S4:Fh b H (EO J3 pt (.tup ((ns.drop j++ns.take j).map V.int))):=SJ.trans q4.sameB;generalize EO J3 pt (.tup ((ns.drop j++ns.take j).map V.int))=H4 at*;generalize DY.tup ((ns.drop j++ns.take j).map DY.int)=dP at*;clear q1 q2 q3 q4 d1 d2 d3 e3 e2 BJ SJ B1 B2 B3 S1 S2 S3;refine JO ?_;dsimp only;by_cases w3:word=3
 · subst w3;refine⟨_,rfl,rfl,_,rfl,EL ?_⟩;refine⟨_,rfl,_,rfl,Jy,λt ht=>?_⟩;refine q _ (.tup [.str "here",.str x,dP]) _ (Ii B4 ht (.cons (rs _ _ (wf _ (by simp))) (.cons (rs _ _ ok) (.cons rP .nil))) (by show 3≤900;decide)) ?_ (GG (by show 3≤100;decide) λe he=>?_) ((B4.same (EW ht _)).mono (by omega)) (S4.trans (EW ht _).sameB)
   · show(FT x && F9 dP)=true;rw[HJ ok,wg];rfl
   · simp only[Aq,A8,or_false] at he;rcases he with rfl | rfl | rfl
     · exact lS _ (wf _ (by simp))
     · exact lS _ ok
     · exact wl
 refine⟨_,rfl,rfl,_,rfl,?_⟩;rw[decide_eq_false (show ¬V.int word=V.int 3 from λz=>w3 (by injection z))];refine EK ?_;refine⟨_,rfl,_,rfl,b,l,_,rfl,B4,by omega,λsz H5 Lm sz1 B5 S5=>?_⟩;obtain⟨k2,rfl⟩:∃k:Nat,sz=(k:Int):=⟨sz.toNat,by omega⟩;refine⟨b,l,_,k2,rfl,B5,by omega,by omega,λmr ms H6 n6 e6 lm posm ascm B6 S6=>?_⟩;obtain⟨mb,ml⟩:=B5.free n6;refine⟨mr,rfl,⟨_,SqL.of e6⟩,λp hp'=>?_⟩;have sT:=EW hp' (.lst []);obtain⟨qb,ql⟩:=B6.free hp';refine QR (xs:=ms.map V.int) (λi σ' ys H'=>(∃v,σ'=[v,some (.ref b)])∧Fh b H6 H'∧Pile H' b l (n+1000+2*(i:Int))∧H' p=some (.lst ys)∧∃us:List (Addr×Int×Int),ys=us.map (λu=>V.ref u.1)∧(us.map (·.2)).map (·.1)=ms.take i∧(∀u∈us,H' u.1=some (.tup [.int u.2.1,.int u.2.2]))∧∀u∈us,0≤u.2.2) ⟨⟨none,rfl⟩,sT.sameB,(B6.same sT).mono (by omega),EU,[],rfl,rfl,λu hu=>by simp at hu,λu hu=>by simp at hu⟩ ?_ ?_ ?_
 · rintro i σ' ys H' hi ⟨_,s,_,h1,us,rfl,h2,_⟩;refine⟨SqL.of (s _ _ e6 mb mb),h1,?_⟩;have:=congrArg List.length h2;rw[Ab,Ab,A4] at this;rw[Ab];exact G2 (by omega)
 · rintro i y σ' ys H7 N hy ⟨⟨v,rfl⟩,S7,B7,h1,us,rfl,h2,h3,h4⟩ hN;rw[A5] at hy;cases em:ms[i]? with
   | none=>rw[em] at hy;cases hy
   | some mi=>
    rw[em] at hy;obtain rfl:V.int mi=y:=A2 hy;have hi:=(Az.mp em).1;refine⟨_,rfl,_,rfl,b,l,_,rfl,B7,by omega,λc H8 c0 B8 S8=>⟨G6,λt ht=>?_⟩⟩;have s9:=EW ht (.tup [V.int mi,V.int c]);have c9:(EO H8 t (.tup [V.int mi,V.int c])) t=some (.tup [V.int mi,V.int c]):=EU;have B9:=B8.same s9;have S9:Fh b H7 (EO H8 t (.tup [V.int mi,V.int c])):=S8.trans s9.sameB;generalize EO H8 t (.tup [V.int mi,V.int c])=H9 at*;have h9:=S9 _ _ h1 qb qb;have tl:=Rs (o:= .lst (us.map (λu=>V.ref u.1)++[V.ref t])) h9;refine⟨h9,hN _ _ _ ⟨⟨_,rfl⟩,(S7.trans S9).off hp',(B9.off qb ql).mono (by omega),EU,us++[(t,mi,c)],by rw[Am];rfl,by rw[Am,Am,h2,FS em];rfl,λu hu=>?_,λu hu=>?_⟩⟩
    · rcases AC.mp hu with z | z
      · exact tl _ _ (S9 _ _ (h3 u z) (Fy B7 (h3 u z)) (Fy B7 (h3 u z)))
      · rw[Ao.mp z];exact tl _ _ c9
    · rcases AC.mp hu with z | z
      · exact h4 u z
      · rw[Ao.mp z];exact c0
 rintro σ' ys H7 ⟨_,S7,B7,h1,us,rfl,h2,h3,h4⟩;rw[Ab,BQ] at h2;have lus:us.length=ms.length:=by have:=congrArg List.length h2;simpa using this
 have B7:=B7.mono (m:=n+1100) (by rw[Ab];omega);refine⟨p,_,rfl,.inl ⟨SqL.of h1,λmt hmt=>?_⟩⟩;obtain⟨mg',ml'⟩:=RB (ps:=us.map (·.2)) (by rw[Ab];omega) (λu hu=>by obtain⟨z,hz,rfl⟩:=AY.mp hu;exact⟨posm _ (by rw[←h2];exact Bd (Bd hz)),h4 z hz⟩) (by rw[h2];exact ascm);have rM:=Ii B7 hmt (Oy B7 us h3) (by rw[Ab];omega);have q8:=EW hmt (.tup (us.map λu=>V.ref u.1));have B8:=B7.same q8;have S8:Fh b H4 (EO H7 mt (.tup (us.map λu=>V.ref u.1))):=((S5.trans S6).trans S7).trans q8.sameB;generalize EO H7 mt (.tup (us.map λu=>V.ref u.1))=H8 at*;generalize DY.tup ((us.map (·.2)).map IX)=dM at*;have rP8:=Gz rP S8;have S08:=S4.trans S8;clear h1 h2 h3 h4 S7 B7 S6 B6 S5 B5 e6 sT q8;refine JO ?_;dsimp only;refine⟨HC,λct hct=>?_⟩;have q9:=EW hct (.tup []);have d9:(EO H8 ct (.tup [])) ct=some (.tup []):=EU;have B9:=B8.same q9;have S9:Fh b H8 (EO H8 ct (.tup [])):=q9.sameB;generalize EO H8 ct (.tup [])=H9 at*;refine⟨_,rfl,b,l,_,rfl,B9,by omega,λsz H10 Lm sz1 B10 S10=>?_⟩;obtain⟨k3,rfl⟩:∃k:Nat,sz=(k:Int):=⟨sz.toNat,by omega⟩;have d10:=S10 _ _ d9 (Fy B9 d9) (Fy B9 d9);refine⟨_,rfl,by omega,by omega,IN (lo:=0) (n:=((k3:Int)).toNat) (λi σ H'=>(∃(ct:Addr)(xs:List V)(es:List DY)(y8 y9 y10:Option V),σ=[some (.ref b),some (.int word),some (.str x),some (.ref a),some (.ref pt),some (.int (j:Int)),some (.ref mt),some (.ref ct),y8,y9,y10]∧H' ct=some (.tup xs)∧RepYs (hp b H') es xs∧es.length=i∧∀e∈es,HB e=true∧EZ e=true)∧Fh b H8 H'∧Pile H' b l (n+1200+50*(i:Int))) ⟨⟨ct,[],[],none,none,none,rfl,d10,.nil,rfl,λe he=>by simp at he⟩,S9.trans S10,B10.mono (by omega)⟩ ?_ ?_⟩
 · rintro i σ H11 hi ⟨⟨ct,xs,es,y8,y9,y10,rfl,e11,r11,le,ge⟩,S11,B11⟩;have hM:((k3:Int)).toNat=k3:=rfl;refine⟨_,rfl,b,l,_,5,rfl,B11,by omega,by decide,by decide,λt5 H12 t50 _ B12 S12=>?_⟩;refine⟨_,rfl,b,l,_,9,rfl,B12,by omega,by decide,by decide,λt9 H13 t90 _ B13 S13=>?_⟩;have FsX:FldsAt H13 b a fs:=(((Fs.sameP S08).sameP S11).sameP S12).sameP S13;refine⟨_,rfl,_,rfl,_,rfl,_,rfl,_,rfl,b,l,a,_,fs,rfl,B13,by omega,FsX,λv d H14 rd gd ld B14 S14=>⟨Jy,λt ht=>?_⟩⟩;have q15:=EW ht (.tup [V.int t5,V.int t9,v]);have rN:=Ii B14 ht (.cons (Ih t5) (.cons (Ih t9) (.cons rd .nil))) (by show 3≤900;decide);have B15:=B14.same q15;have S15:Fh b H11 (EO H14 t (.tup [V.int t5,V.int t9,v])):=((S12.trans S13).trans S14).trans q15.sameB;generalize EO H14 t (.tup [V.int t5,V.int t9,v])=H15 at*;refine⟨IB,λt2 ht2=>?_⟩;have q16:=EW ht2 (.tup [V.ref t]);have d16:(EO H15 t2 (.tup [V.ref t])) t2=some (.tup [V.ref t]):=EU;have B16:=B15.same q16;have S16:Fh b H11 (EO H15 t2 (.tup [V.ref t])):=S15.trans q16.sameB;have rN16:=Gz rN (q16.sameB (b:=b) (g:=b));generalize EO H15 t2 (.tup [V.ref t])=H16 at*;have lx:=r11.length;refine⟨ct,t2,_,_,rfl,rfl,S16 _ _ e11 (Fy B11 e11) (Fy B11 e11),d16,FH (by show xs.length+1≤1000;omega),λc2 H17 s17 e17=>?_⟩;refine⟨⟨c2,xs++[V.ref t],es++[.tup [.int t5,.int t9,d]],_,_,_,rfl,e17,?_,by rw[Ai,le];rfl,λe he=>?_⟩,(S11.trans S16).trans s17.sameB,(B16.same s17).mono (by omega)⟩
   · exact(FZ r11 (S16.trans s17.sameB)).append (.cons (Gz rN16 (s17.sameB (b:=b) (g:=b))) .nil)
   · rcases AC.mp he with z | z
     · exact ge e z
     · rw[Ao.mp z];refine⟨?_,GG (by show 3≤100;decide) λg hg=>?_⟩
       · show(decide (0≤t5) && (decide (0≤t9) && G0 d))=true;rw[decide_eq_true t50,decide_eq_true t90,gd];rfl
       · simp only[Aq,A8,or_false] at hg;rcases hg with rfl | rfl | rfl
         · rw[EZ]
         · rw[EZ]
         · exact ld
 · rintro σ H11 ⟨⟨ct,xs,es,y8,y9,y10,rfl,e11,r11,le,ge⟩,S11,B11⟩;have hM:((k3:Int)).toNat=k3:=rfl;have lx:=r11.length;refine⟨_,rfl,_,rfl,_,rfl,_,rfl,Kx,λt ht=>?_⟩;have rC:=LG B11 e11 r11 (by omega);refine q _ (.tup [.str "kept",.str x,dP,dM,.tup es]) _ (Ii B11 ht (.cons (rs _ _ (wf _ (by simp))) (.cons (rs _ _ ok) (.cons (Gz rP8 S11) (.cons (Gz rM S11) (.cons rC .nil))))) (by show 5≤900;decide)) ?_ (GG (by show 5≤100;decide) λe he=>?_) ((B11.same (EW ht _)).mono (by omega)) ((S08.trans S11).trans (EW ht _).sameB)
   · show(FT x && F9 dP && (GS dM && es.all HB))=true;rw[HJ ok,wg,mg',Ay.mpr λe he=>(ge e he).1];rfl
   · simp only[Aq,A8,or_false] at he;rcases he with rfl | rfl | rfl | rfl | rfl
     · exact lS _ (wf _ (by simp))
     · exact lS _ ok
     · exact wl
     · exact ml'
     · exact GG (by omega) λg hg=>(ge g hg).2
def Kj:List DY:=[.non,.bl true,.bl false,.int 0,.int 1,.int (-1),.int 7,.str "",.str "a",.str "want",.str "kept"]
def Ki:List DY:=[.str "abcdefghi",.str "B",.str "a b",.tup [],.lst [],.dic,.tup [.int 0,.int 1],.tup [.int 1,.int 0],.tup [.int 0,.int 0]]
def Kh:List DY:=[.tup [.str "a",.int 1,.int 2],.tup [.str "a",.int 2,.int 1],.tup [.str "a",.non,.non],.tup [.str "a",.int 1]]
@[irreducible] def GM:Expr:=Q2 ((Gv Hd).getD 0 (.Pass ⟨0,0,0,0⟩))
@[irreducible] def Hh:Expr:=JS ((Gv Hd).getD 1 (.Pass ⟨0,0,0,0⟩))
@[irreducible] def Hg:Expr:=JS ((Gv Hd).getD 2 (.Pass ⟨0,0,0,0⟩))
omit B qF' qML' Fo in
theorem MY:PE X GM (G9 (Jl Kj)):=by exact LM (by unfold GM;kernel_rfl) (by unfold GM;kernel_rfl)
omit B qF' qML' Fo in
theorem MX:PE X Hh (G9 (Jl Ki)):=by exact LM (by unfold Hh;kernel_rfl) (by unfold Hh;kernel_rfl)
omit B qF' qML' Fo in
theorem MW:PE X Hg (G9 (Jl Kh)):=by exact LM (by unfold Hg;kernel_rfl) (by unfold Hg;kernel_rfl)
omit B qF' qML' Fo in
theorem TY:Gv Hd=(((Gv Hd).set 0 (MO ((Gv Hd).getD 0 (.Pass ⟨0,0,0,0⟩)) GM)).set 1 (J_ ((Gv Hd).getD 1 (.Pass ⟨0,0,0,0⟩)) Hh)).set 2 (J_ ((Gv Hd).getD 2 (.Pass ⟨0,0,0,0⟩)) Hg):=by unfold GM Hh Hg;rfl
theorem RG(F:Fun K "_law_odd" "_law_odd" Hd f fd)(Er:Γ22 P w K mg base):FnOk P w K mg base Fe 2 f fd ["pile"] (IV):=by
 refine F.ok DM (λvs H Q E h=>?_) (λcdv A outer s H vs Q E hr h=>?_)
 · obtain⟨b,l,n,rfl,Bg,hn,q⟩:=h;rfl
 obtain⟨b,l,n,rfl,Bg,hn,q⟩:=h;rw[TY];refine⟨_,(EQ (Ff (i:=1) DM.nd rfl (Or.inl rfl) MY (hs:=by unfold GM;rfl))
  (EQ (Ff (i:=1) DM.nd rfl (Or.inl rfl) (EX K7 (pv 1) MX))
  (EQ (Ff (i:=1) DM.nd rfl (Or.inl rfl) (EX K7 (pv 1) MW))
  (ES (EV (Fc FU (pv 1) (ET Er (hr.mono (by decide)) rfl (EJ (pv 0) (EJ EN EM))) (λ_ _=>rfl))))))),?_⟩
 obtain⟨_,_,_,_,eb,_⟩:=id Bg.ex;have nb:H b≠none:=λz=>by rw[z] at eb;cases eb
 intro vs0 H1 s1 r1;have l1:vs0.length=11:=r1.length;refine⟨FH (by omega),λp1 hp1=>?_⟩;have r1h:RepYs (hp b H1) Kj vs0:=RepYs.same (LC nb nb) _ r1;have s2:=EW hp1 (.lst vs0);have d2:(EO H1 p1 (.lst vs0)) p1=some (.lst vs0):=EU;have t2:=s1.trans s2;have r2h:=FZ r1h (s2.sameB (b:=b) (g:=b));generalize EO H1 p1 (.lst vs0)=H2 at*;refine⟨_,rfl,λvs1 H3 s3 r3=>?_⟩;have l3:vs1.length=9:=r3.length;refine⟨FH (by omega),λp3 hp3=>?_⟩;have nb2:H2 b≠none:=λz=>nb (t2.free z);have r3h:RepYs (hp b H3) Ki vs1:=RepYs.same (LC nb2 nb2) _ r3;have s4:=EW hp3 (.lst vs1);have d4:(EO H3 p3 (.lst vs1)) p3=some (.lst vs1):=EU;have t4:=t2.trans (s3.trans s4);have r4:=(FZ r2h ((s3.trans s4).sameB (b:=b) (g:=b))).append (FZ r3h (s4.sameB (b:=b) (g:=b)));have d24:=(s3.trans s4) _ _ d2;generalize EO H3 p3 (.lst vs1)=H4 at*;refine⟨p1,p3,_,_,rfl,rfl,d24,d4,FH (by omega),λp5 hp5=>?_⟩;have s5:=EW hp5 (.lst (vs0++vs1));have d5:(EO H4 p5 (.lst (vs0++vs1))) p5=some (.lst (vs0++vs1)):=EU;have t5:=t4.trans s5;have r5:=FZ r4 (s5.sameB (b:=b) (g:=b));generalize EO H4 p5 (.lst (vs0++vs1))=H5 at*;refine⟨_,rfl,λvs2 H6 s6 r6=>?_⟩;have l6:vs2.length=4:=r6.length;refine⟨FH (by omega),λp6 hp6=>?_⟩;have nb5:H5 b≠none:=λz=>nb (t5.free z);have r6h:RepYs (hp b H6) Kh vs2:=RepYs.same (LC nb5 nb5) _ r6;have s7:=EW hp6 (.lst vs2);have d7:(EO H6 p6 (.lst vs2)) p6=some (.lst vs2):=EU;have t7:=t5.trans (s6.trans s7);have r7:=(FZ r5 ((s6.trans s7).sameB (b:=b) (g:=b))).append (FZ r6h (s7.sameB (b:=b) (g:=b)));have d57:=(s6.trans s7) _ _ d5;generalize EO H6 p6 (.lst vs2)=H7 at*;refine⟨p5,p6,_,_,rfl,rfl,d57,d7,FH (by rw[Ai];omega),λp8 hp8=>?_⟩;have s8:=EW hp8 (.lst (vs0++vs1++vs2));have d8:(EO H7 p8 (.lst (vs0++vs1++vs2))) p8=some (.lst (vs0++vs1++vs2)):=EU;have t8:=t7.trans s8;have B8:=Bg.same t8;have r8:=FZ r7 (s8.sameB (b:=b) (g:=b));have n8:p8≠b:=(((Bg.same t7)).free hp8).1;generalize EO H7 p8 (.lst (vs0++vs1++vs2))=H8 at*;refine⟨_,rfl,_,rfl,b,l,_,24,rfl,B8,by omega,by decide,by decide,λk H9 k0 k1 B9 S9=>?_⟩;obtain⟨j,rfl⟩:∃j:Nat,k=(j:Int):=⟨k.toNat,by omega⟩;have r9:=FZ r8 S9;obtain⟨dj,xj,ej,exj,rj⟩:=r9.getD (k:=j) (by show j<24;omega);exact⟨p8,_,_,_,rfl,rfl,SqL.of (S9 _ _ d8 n8 n8),Ib exj,q xj dj H9 rj (B9.mono (by omega)) (t8.sameB.trans S9)⟩
theorem TN(F:Fun K "_law_spoilt_end" "_law_spoilt_end" Mv f fd)(Er:Γ22 P w K mg base)(Ey:Γ31 P w K mg base):FnOk P w K mg base Fe 3 f fd ["pile","thing"] (L6):=by
 refine F.ok DN (λvs H Q E h=>?_) (λcdv A outer s H vs Q E hr h=>?_)
 · obtain⟨b,l,n,v,d,rfl,Bg,hn,hd,lo,q⟩:=h;rfl
 obtain⟨b,l,n,v,d,rfl,Bg,hn,hd,lo,q⟩:=h;refine⟨_,(EQ (Ff (i:=2) DN.nd rfl (Or.inl rfl) (ET Er (hr.mono (by decide)) rfl (EJ (pv 0) (EJ EN EM))))
  (EQ (Fj (PW.pt (G_ (Fm (Fb (FD (n:="")) rfl B.isinstance_ FE (EJ (pv 1) (EJ (FG (v:= .ty "tuple") rfl B.tuple_ Gc rfl) EM)))) (Ig (Fq HZ (pv 2) EN (Fd _))))) (EQ (Ff (i:=3) DN.nd rfl (Or.inl rfl) (ET Er (hr.mono (by decide)) rfl (EJ (pv 0) (EJ (EX Gd (Fb Gj rfl B.len_ FP (EJ (pv 1) EM)) EN) EM))))
  (EQ (Fj (Fq Gb (pv 2) EN (Fd _)) (ES (EV (EX GQ (FO G4 (pv 1) FX (FL (pv 3))) (FO G4 (pv 1) (FL (EX Gd (pv 3) EN)) FX)))) Fi)
  (EQ (Fj (Fq Gb (pv 2) EN (Fd _)) (ES (EV (EX GQ (EX GQ (FO G4 (pv 1) FX (FL (pv 3))) (FW (EJ (ET Ey (hr.mono (by decide)) rfl (EJ (pv 0) EM)) EM))) (FO G4 (pv 1) (FL (pv 3)) FX)))) Fi)
  (EQ (Fj (Fq Gb (pv 2) EN (Fd _)) (EQ (Ff (i:=4) DN.nd rfl (Or.inl rfl) (EX GQ (FO G4 (pv 1) (FL (EX Gd (pv 3) EN)) (FL (EX Gd (pv 3) EN))) (FO G4 (pv 1) (FL (pv 3)) (FL (EX Gd (pv 3) EN)))))
  (ES (EV (EX GQ (EX GQ (FO G4 (pv 1) FX (FL (pv 3))) (pv 4)) (FO G4 (pv 1) (FL (EX Gd (pv 3) EN)) FX))))) Fi)
  (ES (EV (Jq Pf rfl B.list_ Oi (EJ (pv 1) EM)))))))) Fi)
  (EQ (Fj (PW.pt (G_ (Fm (Fb (FD (n:="")) rfl B.isinstance_ FE (EJ (pv 1) (EJ (FG (v:= .ty "int") rfl B.int_ JJ rfl) EM)))) (Ig (Fq HZ (pv 2) EN (Fd _))))) (ES (EV (Fc FU (Gk (EJ (EX Gd (pv 1) EN) (EJ (EX IH (pv 1) EN) (EJ (EX IH (JC JD EN) (pv 1)) EM)))) (pv 2) (λ_ _=>rfl)))) Fi)
  (EQ (Fj (PW.pt (G_ (Fm (Fb (FD (n:="")) rfl B.isinstance_ FE (EJ (pv 1) (EJ (FG (v:= .ty "str") rfl B.str_ JK rfl) EM)))) (Ig (Fq HZ (pv 2) EN (Fd _))))) (EQ (Ff (i:=5) DN.nd rfl (Or.inl rfl) (Gk (EJ (EX Iq (pv 1) Gm) (EJ (FO IK (pv 1) (FL EN) FX) (EJ (Qu Du PySem.F.slot_str_upper PySem.F.type_str_upper R7 (pv 1)) EM)))))
  (ES (EV (Fc FU (pv 5) (pv 2) (λ_ _=>rfl))))) Fi)
  (ES (EV (ET Ey (hr.mono (by decide)) rfl (EJ (pv 0) EM)))))))),?_⟩
 refine⟨_,rfl,b,l,_,6,rfl,Bg,by omega,by decide,by decide,λst H1 st0 st1 B1 S1=>?_⟩;have hd1:=Gz hd S1;have odd:∀(σ:L2.St),σ[0]?=some (some (V.ref b))→HM (Jk IV [] E0 (GK (F6 0) Go)) {nx:=λx H'=>Q V.non H',rt:=Q} σ H1:=λσ e=>⟨_,e,b,l,_,rfl,B1,by omega,λv' d' H2 r2 B2 S2=>q v' d' H2 r2 (B2.mono (by omega)) (S1.trans S2)⟩;cases d with
 | tup ds=>
  obtain⟨a,xs,rfl,ha,h9,hx⟩:=NN hd1;obtain⟨l100,lds⟩:=Pd lo;have lx:=hx.length;refine⟨_,rfl,_,"tuple","tuple",true,rfl,.tup ha,rfl,_,rfl,EL ⟨_,rfl,_,_,rfl,rfl,_,rfl,?_⟩⟩;refine F7 (λh4=>?_) (λh4=>?_)
  · have h4:=of_decide_eq_true h4;refine⟨_,rfl,_,rfl,a,_,rfl,.inr (SqT.of ha),_,_,rfl,rfl,b,l,_,_,rfl,B1,by omega,(by show 0<(xs.length:Int)+1;omega),(J0 (n:=(xs.length:Int)+1) (by omega)),λat' H2 Ga at1 B2 S2=>?_⟩;have ha2:=S2 _ _ ha (Fy B1 ha) (Fy B1 ha);have hx2:=FZ hx S2;have S12:=S1.trans S2;have fin:∀(p:Addr)(ys:List V)(es:List DY)(H3:Hp),Fh b H2 H3→Pile H3 b l (n+4)→H3 p=some (.tup ys)→RepYs (hp b H3) es ys→es.length≤900→Q (.ref p) H3:=λp ys es H3 S3 B3 e3 r3 l3=>q _ _ H3 (LG B3 e3 r3 (by rw[r3.length];exact l3)) (B3.mono (by omega)) (S12.trans S3);have tne:∀{H3:Hp}{p:Addr}{ys:List V},Pile H3 b l (n+4)→H3 p=some (.tup ys)→p≠b:=λB3 e3=>Fy B3 e3;have B2':Pile H2 b l (n+4):=B2.mono (by omega);by_cases k0:st=0
    · subst k0;refine⟨_,rfl,rfl,_,rfl,EL ?_⟩;refine⟨_,rfl,_,rfl,_,rfl,a,_,rfl,ha2,λp1 H3 s3 e3=>?_⟩;obtain⟨ds1,r1,l1⟩:=Hu hx2 none (some at');refine⟨_,rfl,_,rfl,_,_,rfl,rfl,_,rfl,a,_,rfl,s3 _ _ ha2,λp2 H4 s4 e4=>?_⟩;obtain⟨ds2,r2,l2⟩:=Hu hx2 (some (at'+1)) none;have c1:=GV xs none (some at');have c2:=GV xs (some (at'+1)) none;refine⟨p1,p2,_,_,rfl,rfl,s4 _ _ e3,e4,FH (by omega),λp3 H5 s5 e5=>?_⟩;have sT:=s3.trans (s4.trans s5);exact fin p3 _ (ds1++ds2) H5 sT.sameB (B2'.same sT) e5 ((FZ r1 sT.sameB).append (FZ r2 sT.sameB)) (by rw[Ai];omega)
    by_cases k1:st=1
    · subst k1;refine⟨_,rfl,rfl,_,rfl,EK ⟨_,rfl,rfl,_,rfl,EL ?_⟩⟩;refine⟨_,rfl,_,rfl,_,rfl,a,_,rfl,ha2,λp1 H3 s3 e3=>?_⟩;obtain⟨ds1,r1,l1⟩:=Hu hx2 none (some at');refine⟨_,rfl,b,l,_,rfl,B2.same s3,by omega,λvo dO H4 rO B4 S4=>⟨IB,λp2 hp2=>?_⟩⟩;have s5:=EW hp2 (.tup [vo]);have d5:(EO H4 p2 (.tup [vo])) p2=some (.tup [vo]):=EU;have B5:=B4.same s5;have S35:Fh b H3 (EO H4 p2 (.tup [vo])):=S4.trans s5.sameB;have rO5:=Gz rO (s5.sameB (b:=b) (g:=b));generalize EO H4 p2 (.tup [vo])=H5 at*;have B3:=B2'.same s3;have e5:=S35 _ _ e3 (tne B3 e3) (tne B3 e3);have c1:=GV xs none (some at');refine⟨p1,p2,_,_,rfl,rfl,e5,d5,FH (by show(Fk xs none (some at')).length+1≤1000;omega),λp3 H6 s6 e6=>?_⟩;have S26:Fh b H2 H6:=(s3.sameB.trans S35).trans s6.sameB;refine⟨_,rfl,_,rfl,_,rfl,a,_,rfl,S26 _ _ ha2 (tne B2' ha2) (tne B2' ha2),λp4 H7 s7 e7=>?_⟩;obtain⟨ds2,r2,l2⟩:=Hu hx2 (some at') none;have c2:=GV xs (some at') none;refine⟨p3,p4,_,_,rfl,rfl,s7 _ _ e6,e7,FH (by rw[Ai];show(Fk xs none (some at')).length+1+_≤1000;omega),λp5 H8 s8 e8=>?_⟩;have S28:Fh b H2 H8:=S26.trans (s7.trans s8).sameB;have t58:=s6.trans (s7.trans s8);exact fin p5 _ (ds1++[dO]++ds2) H8 S28 ((B5.same t58).mono (by omega)) e8 (((FZ r1 S28).append (.cons (Gz rO5 (t58.sameB (b:=b) (g:=b))) .nil)).append (FZ r2 S28)) (by rw[Ai,Ai];show ds1.length+1+ds2.length≤900;omega)
    by_cases k2:st=2
    · subst k2;refine⟨_,rfl,rfl,_,rfl,EK ⟨_,rfl,rfl,_,rfl,EK ⟨_,rfl,rfl,_,rfl,EL ?_⟩⟩⟩;refine⟨_,rfl,_,rfl,_,_,rfl,rfl,_,rfl,_,rfl,_,_,rfl,rfl,_,rfl,a,_,rfl,ha2,λp1 H3 s3 e3=>?_⟩;obtain⟨ds1,r1,l1⟩:=Hu hx2 (some (at'+1)) (some (at'+2));refine⟨_,rfl,_,rfl,_,rfl,_,rfl,_,_,rfl,rfl,_,rfl,a,_,rfl,s3 _ _ ha2,λp2 H4 s4 e4=>?_⟩;obtain⟨ds2,r2,l2⟩:=Hu hx2 (some at') (some (at'+1));have c1:=GV xs (some (at'+1)) (some (at'+2));have c2:=GV xs (some at') (some (at'+1));refine⟨p1,p2,_,_,rfl,rfl,s4 _ _ e3,e4,FH (by omega),λp3 H5 s5 e5=>?_⟩;have t25:=s3.trans (s4.trans s5);refine⟨_,rfl,_,rfl,_,rfl,a,_,rfl,t25 _ _ ha2,λp4 H6 s6 e6=>?_⟩;obtain⟨ds3,r3,l3⟩:=Hu hx2 none (some at');have c3:=GV xs none (some at');refine⟨_,rfl,p4,p3,_,_,rfl,rfl,e6,s6 _ _ e5,FH (by rw[Ai];omega),λp5 H7 s7 e7=>?_⟩;have t27:=t25.trans (s6.trans s7);refine⟨_,rfl,_,rfl,_,_,rfl,rfl,_,rfl,a,_,rfl,t27 _ _ ha2,λp6 H8 s8 e8=>?_⟩;obtain⟨ds4,r4,l4⟩:=Hu hx2 (some (at'+2)) none;have c4:=GV xs (some (at'+2)) none;refine⟨p5,p6,_,_,rfl,rfl,s8 _ _ e7,e8,FH (by rw[Ai,Ai];omega),λp7 H9 s9 e9=>?_⟩;have t29:=t27.trans (s8.trans s9);have S29:Fh b H2 H9:=t29.sameB;exact fin p7 _ (ds3++(ds1++ds2)++ds4) H9 S29 (B2'.same t29) e9 (((FZ r3 S29).append ((FZ r1 S29).append (FZ r2 S29))).append (FZ r4 S29)) (by rw[Ai,Ai,Ai];omega)
    · have k3:st=3:=by omega
      subst k3;refine⟨_,rfl,rfl,_,rfl,EK ⟨_,rfl,rfl,_,rfl,EK ⟨_,rfl,rfl,_,rfl,EK ?_⟩⟩⟩;refine⟨_,rfl,a,_,rfl,.inr (SqT.of ha2),λp hp'=>?_⟩;have s3:=EW hp' (.lst xs);exact q _ (.lst ds) _ (Ox (HY EU (B2.free hp').1) (FZ hx2 s3.sameB) (by omega)) ((B2.same s3).mono (by omega)) (S12.trans s3.sameB)
  · refine⟨_,rfl,_,"tuple","int",false,rfl,.tup ha,rfl,_,rfl,EK (EK ⟨_,rfl,_,"tuple","str",false,rfl,.tup ha,rfl,_,rfl,EK (EK (odd _ rfl))⟩)⟩
 | int i=>
  rw[RepY] at hd1;subst hd1;refine⟨_,rfl,_,"int","tuple",false,rfl,.int i,rfl,_,rfl,EK (EK ⟨_,rfl,_,"int","int",true,rfl,.int i,rfl,_,rfl,EL ⟨_,rfl,_,_,rfl,rfl,_,rfl,?_⟩⟩)⟩;refine F7 (λh3=>?_) (λh3=>?_)
  · have h3:=of_decide_eq_true h3;refine⟨_,rfl,_,_,rfl,rfl,_,rfl,_,_,rfl,rfl,_,rfl,_,rfl,_,_,rfl,rfl,Jy,λp hp'=>?_⟩;have s2:=EW hp' (.lst [V.int (i+1),V.int (i - 1),V.int (-1 - i)]);obtain⟨v,hv⟩:∃v:Int,F_ [V.int (i+1),V.int (i - 1),V.int (-1 - i)] st=some (.int v):=by
     have:st=0∨st=1∨st=2:=by omega
     rcases this with rfl | rfl | rfl
     · exact⟨_,rfl⟩
     · exact⟨_,rfl⟩
     · exact⟨_,rfl⟩
    exact⟨_,rfl,p,_,_,_,rfl,rfl,SqL.of EU,hv,q _ (.int v) _ (Ih v) ((B1.same s2).mono (by omega)) (S1.trans s2.sameB)⟩
  · exact⟨_,rfl,_,"int","str",false,rfl,.int i,rfl,_,rfl,EK (EK (odd _ rfl))⟩
 | str y=>
  have fy:=OL lo;have y8:=fy.eight;rw[RepY] at hd1;obtain⟨rfl,_⟩:=hd1;refine⟨_,rfl,_,"str","tuple",false,rfl,.str y,rfl,_,rfl,EK (EK ⟨_,rfl,_,"str","int",false,rfl,.str y,rfl,_,rfl,EK (EK ⟨_,rfl,_,"str","str",true,rfl,.str y,rfl,_,rfl,EL ⟨_,rfl,_,_,rfl,rfl,_,rfl,?_⟩⟩)⟩)⟩;refine F7 (λh3=>?_) (λh3=>odd _ rfl);have h3:=of_decide_eq_true h3;refine⟨_,rfl,_,_,rfl,rfl,FH (by show y.length+1≤1000;omega),_,rfl,_,rfl,y,rfl,by omega,λz2 z2l _=>?_⟩;refine⟨_,rfl,rfl,y,rfl,rfl,fy,λz3 z3l=>⟨Jy,λp hp'=>?_⟩⟩;have s2:=EW hp' (.lst [V.str (y++"a"),V.str z2,V.str z3]);obtain⟨v,hv,lv⟩:∃v:Str,F_ [V.str (y++"a"),V.str z2,V.str z3] st=some (.str v)∧v.length≤900:=by
   have:st=0∨st=1∨st=2:=by omega
   rcases this with rfl | rfl | rfl
   · exact⟨_,rfl,by rw[GP];show y.length+1≤900;omega⟩
   · exact⟨_,rfl,by omega⟩
   · exact⟨_,rfl,by omega⟩
  exact⟨_,rfl,_,rfl,p,_,_,_,rfl,rfl,SqL.of EU,hv,q _ (.str v) _ (JL lv) ((B1.same s2).mono (by omega)) (S1.trans s2.sameB)⟩
 | non=> rw[RepY] at hd1;subst hd1;exact⟨_,rfl,_,"NoneType","tuple",false,rfl,.non,rfl,_,rfl,EK (EK ⟨_,rfl,_,"NoneType","int",false,rfl,.non,rfl,_,rfl,EK (EK ⟨_,rfl,_,"NoneType","str",false,rfl,.non,rfl,_,rfl,EK (EK (odd _ rfl))⟩)⟩)⟩
 | _=>rw[EZ] at lo<;>first | cases lo | (intros;contradiction)
theorem SY(F:Fun K "_law_spoilt" "_law_spoilt" Ml f fd)(Ez:Γ32 P w K mg base)(Er:Γ22 P w K mg base)(M_self:mg "_law_spoilt"=some (.ref f)):FnOk P w K mg base Fe 11 f fd ["pile","thing","deep"] (LF 6 L7):=by
 have b_self:=F.binds (ps:=["pile","thing","deep"]) λ_ _ _ _ _ _=>lS λ_=>lS λ_=>lS λ_=>l0 rfl
 refine QN (L:=3) (D:=6) (NG F DO b_self M_self 3 (L7) λn sp0 hsp E5=>?_);refine F.ok DO (λvs H Q E h=>?_) (λcdv A outer s H vs Q E hr h=>?_)
 · obtain⟨b,l,n',v,d,rfl,Bg,hn,hd,lo,q⟩:=h;rfl
 obtain⟨b,l,n',v,d,rfl,Bg,hn,hd,lo,q⟩:=h;refine⟨_,(EQ (Fj (PW.pt (G_ (Fm (Fb (FD (n:="")) rfl B.isinstance_ FE (EJ (pv 1) (EJ (FG (v:= .ty "tuple") rfl B.tuple_ Gc rfl) EM)))) (G_ (Fq Ho (Fb Gj rfl B.len_ FP (EJ (pv 1) EM)) EN (Fd _)) (G_ (Fq Ho (pv 2) EN (Fd _)) (Ig (Fq Ho (ET Er (hr.mono (by omega)) rfl (EJ (pv 0) (EJ EN EM))) EN (Fd _))))))) (EQ (Ff (i:=3) DO.nd rfl (Or.inl rfl) (ET Er (hr.mono (by omega)) rfl (EJ (pv 0) (EJ (Fb Gj rfl B.len_ FP (EJ (pv 1) EM)) EM))))
  (EQ (Ff (i:=4) DO.nd rfl (Or.inl rfl) (ET E5 (hr.mono (by omega)) rfl (EJ (pv 0) (EJ (Fc FN (pv 1) (pv 3) (λ_ _=>rfl)) (EJ (EX IH (pv 2) EN) EM)))))
  (ES (EV (EX GQ (EX GQ (FO G4 (pv 1) FX (FL (pv 3))) (FW (EJ (pv 4) EM))) (FO G4 (pv 1) (FL (EX Gd (pv 3) EN)) FX)))))) Fi)
  (ES (EV (ET Ez (hr.mono (by omega)) rfl (EJ (pv 0) (EJ (pv 1) EM)))))),?_⟩
 have endc:∀(σ:L2.St)(H1:Hp),σ[0]?=some (some (V.ref b))→σ[1]?=some (some v)→Fh b H H1→Pile H1 b l (n'+1)→HM (Jk L6 [] E0 (GK (F6 0) (GK (F6 1) Go))) {nx:=λx H'=>Q V.non H',rt:=Q} σ H1:=λσ H1 e0 e1 S1 B1=>⟨_,e0,_,e1,b,l,_,v,d,rfl,B1,by omega,Gz hd S1,lo,λv' d' H2 r2 B2 S2=>q v' d' H2 r2 (B2.mono (by omega)) (S1.trans S2)⟩;cases d with
 | tup ds=>
  obtain⟨a,xs,rfl,ha,h9,hx⟩:=NN hd;obtain⟨l100,lds⟩:=Pd lo;have lx:=hx.length;refine⟨_,rfl,_,"tuple","tuple",true,rfl,.tup ha,rfl,_,rfl,EL ⟨_,rfl,a,_,rfl,.inr (SqT.of ha),_,_,rfl,rfl,_,rfl,F7 (λh1=>?_) (λh1=>EK (endc _ H rfl rfl (SameB.refl _ _ _) (Bg.mono (by omega))))⟩⟩;have h1:=of_decide_eq_true h1;refine⟨_,rfl,_,_,rfl,rfl,_,rfl,F7 (λh2=>?_) (λh2=>EK (endc _ H rfl rfl (SameB.refl _ _ _) (Bg.mono (by omega))))⟩;have h2:=of_decide_eq_true h2;obtain⟨m,rfl⟩:∃m,n=m+1:=⟨n - 1,by omega⟩;have e:=hsp m rfl;subst e;refine⟨_,rfl,b,l,_,4,rfl,Bg,by omega,by decide,by decide,λc H1 _ _ B1 S1=>⟨_,_,rfl,rfl,_,rfl,F7 (λh3=>?_) (λh3=>endc _ H1 rfl rfl S1 B1)⟩⟩;have ha1:=S1 _ _ ha (Fy Bg ha) (Fy Bg ha);refine⟨_,rfl,_,rfl,a,_,rfl,.inr (SqT.of ha1),b,l,_,_,rfl,B1,by omega,h1,(J0 (n:=(xs.length:Int)) (by omega)),λat' H2 Ga at1 B2 S2=>?_⟩;obtain⟨k,rfl⟩:∃k:Nat,at'=(k:Int):=⟨at'.toNat,by omega⟩;have hk:k<ds.length:=by omega
  have S02:=S1.trans S2;have ha2:=S2 _ _ ha1 (Fy B1 ha1) (Fy B1 ha1);have hx2:=FZ hx S02;obtain⟨dk,xk,ek,exk,rk⟩:=hx2.getD hk;have hat:F_ xs (k:Int)=some xk:=Ib exk;refine⟨_,rfl,_,rfl,_,rfl,a,_,_,_,rfl,rfl,SqT.of ha2,hat,_,rfl,_,_,rfl,rfl,?_⟩;refine⟨b,l,_,xk,dk,(by show [V.ref b,xk,V.int (((m+1:Nat):Int) - 1)]=_;rw[show((m+1:Nat):Int) - 1=(m:Int) by omega]),B2,by omega,rk,lds dk (AO ek),λv' d' H3 r3 B3 S3=>?_⟩;have ha3:=S3 _ _ ha2 (Fy B2 ha2) (Fy B2 ha2);have hx3:=FZ hx2 S3;refine⟨_,rfl,_,rfl,_,rfl,a,_,rfl,ha3,λp1 H4 s4 e4=>?_⟩;obtain⟨ds1,r1,l1⟩:=Hu hx3 none (some (k:Int));refine⟨_,rfl,IB,λp2 hp2=>?_⟩;have s5:=EW hp2 (.tup [v']);have d5:(EO H4 p2 (.tup [v'])) p2=some (.tup [v']):=EU;generalize EO H4 p2 (.tup [v'])=H5 at*;have c1:=GV xs none (some (k:Int));refine⟨p1,p2,_,_,rfl,rfl,s5 _ _ e4,d5,FH (by show(Fk xs none (some (k:Int))).length+1≤1000;omega),λp3 H6 s6 e6=>?_⟩;have t36:=s4.trans (s5.trans s6);refine⟨_,rfl,_,rfl,_,_,rfl,rfl,_,rfl,a,_,rfl,t36 _ _ ha3,λp4 H7 s7 e7=>?_⟩;obtain⟨ds2,r2,l2⟩:=Hu hx3 (some ((k:Int)+1)) none;have c2:=GV xs (some ((k:Int)+1)) none;refine⟨p3,p4,_,_,rfl,rfl,s7 _ _ e6,e7,FH (by rw[Ai];show(Fk xs none (some (k:Int))).length+1+_≤1000;omega),λp5 H8 s8 e8=>?_⟩;have t38:=t36.trans (s7.trans s8);have S38:Fh b H3 H8:=t38.sameB;have B8:=B3.same t38;refine q _ (.tup (ds1++[d']++ds2)) H8 (LG B8 e8 (((FZ r1 S38).append (.cons (Gz r3 S38) .nil)).append (FZ r2 S38)) ?_) (B8.mono (by omega)) ((S02.trans S3).trans S38);rw[Ai,Ai];show(Fk xs none (some (k:Int))).length+1+_≤900;omega
 | _=>exact⟨_,rfl,_,_,"tuple",false,rfl,(IJ hd).ty,rfl,_,rfl,EK (EK (endc _ H rfl rfl (SameB.refl _ _ _) (Bg.mono (by omega))))⟩
theorem Ts(F:Fun K "_law_is_whole" "_law_is_whole" M0 f fd)  :FnOk P w K mg base Fe 1 f fd ["thing","least"] (IU):=by
 refine F.ok Tu (λvs H Q E h=>?_) (λcdv A outer s H vs Q E hr h=>?_)
 · obtain⟨v,d,o,rfl,hd,q⟩:=h;rfl
 obtain⟨v,d,o,rfl,hd,q⟩:=h;refine⟨_,(ES (EV (Ge (Fb (FD (n:="")) rfl B.isinstance_ FE (EJ (pv 0) (EJ (FG (v:= .ty "int") rfl B.int_ JJ rfl) EM))) (Ge (NC (Fb (FD (n:="")) rfl B.isinstance_ FE (EJ (pv 0) (EJ (FG (v:= .ty "bool") rfl B.bool_ LU rfl) EM)))) (Gr (JB (K9 (K8 (pv 1))) (Gr (Gw L9 (pv 0) (pv 1) (Fd _))))))))),?_⟩;cases d with
 | int i=>
  rw[RepY] at hd;subst hd;refine⟨_,rfl,_,"int","int",true,rfl,.int i,rfl,_,rfl,EL ⟨_,rfl,_,"int","bool",false,rfl,.int i,rfl,_,rfl,_,rfl,EL ?_⟩⟩;cases o with
  | none=>exact⟨_,rfl,_,rfl,EL (q _ (Same.refl _))⟩
  | some m=>exact⟨_,rfl,_,rfl,EK ⟨_,rfl,_,rfl,_,_,rfl,rfl,q _ (Same.refl _)⟩⟩
 | bl b=> rw[RepY] at hd;subst hd;exact⟨_,rfl,_,"bool","int",true,rfl,.bl b,rfl,_,rfl,EL ⟨_,rfl,_,"bool","bool",true,rfl,.bl b,rfl,_,rfl,_,rfl,EK (q _ (Same.refl _))⟩⟩
 | _=>exact⟨_,rfl,_,_,"int",false,rfl,hd.ty,rfl,_,rfl,EK (q _ (Same.refl _))⟩
theorem T6(F:Fun K "_law_is_text" "_law_is_text" Lc f fd)  :FnOk P w K mg base Fe 1 f fd ["thing"] (F5 FK):=by
 refine F.ok TF (λvs H Q E h=>?_) (λcdv A outer s H vs Q E hr h=>?_)
 · obtain⟨v,d,rfl,hd,q⟩:=h;rfl
 obtain⟨v,d,rfl,hd,q⟩:=h;refine⟨_,(EQ (Fj (PW.pt (FJ (Fp (Fm (Fb (FD (n:="")) rfl B.isinstance_ FE (EJ (pv 0) (EJ (FG (v:= .ty "str") rfl B.str_ JK rfl) EM))))) (FJ (Fq HZ (Fb Lf rfl B.len_ FP (EJ (pv 0) EM)) EN (Fd _)) (Gf (Fq Ho (Fb Lf rfl B.len_ FP (EJ (pv 0) EM)) EN (Fd _)))))) (ES (EV Fv)) Fi)
  (ES (EV (Gw (Qq (JP hr)) (G8 (N':=["sign"]) (js:=[none]) rfl (G7 (N:=["thing"]) (outer:=Fa Lc) (by decide+kernel)) (ND (pv 0)) (λ_ _ _ _ _=>(Fw (i:=0) Kn rfl (Or.inl rfl))) (λ_ _ _ _ _=>KM (Fq Ti (pv 0) Gm (by with_unfolding_all rfl))) (λ_ _ _ _ _=>(pv 0))) (Gk EM) (Fd _))))),?_⟩
 cases d with
 | str x=>
  rw[RepY] at hd;obtain⟨rfl,hx⟩:=hd;have qf:∀b,FT x=b→∀H',Same H H'→Q (.bl b) H':=λb e H' s=>by rw[←e];exact q H' s
  refine⟨_,rfl,_,"str","str",true,rfl,.str x,rfl,_,rfl,EK ⟨_,rfl,x,rfl,FH (by omega),_,_,rfl,rfl,_,rfl,?_⟩⟩;by_cases l1:(x.length:Int)<1
  · rw[decide_eq_true l1];refine EL (qf _ ?_ H (Same.refl _));unfold FT;rw[decide_eq_false (show ¬ 1≤x.length by omega)];rfl
  rw[decide_eq_false l1];refine EK ⟨_,rfl,x,rfl,FH (by omega),_,_,rfl,rfl,_,rfl,?_⟩;by_cases l8:(8:Int)<(x.length:Int)
  · rw[decide_eq_true l8];refine EL (qf _ ?_ H (Same.refl _));unfold FT;rw[decide_eq_false (show ¬x.length≤8 by omega),Bm];rfl
  rw[decide_eq_false l8];refine EK ⟨_,rfl,x,rfl,λp hp=>?_⟩;have sl:(L2.signs x).length=x.length:=by unfold L2.signs;rw[Ab,A3];rfl
  refine NX (xs:=L2.signs x) (λi σ' ys H'=>(∃v,σ'=[v])∧Same H H'∧H' p=some (.lst ys)∧ys=(((x.cps.toList.take i).filter λc=>!FR c).map λc=>(⟨#[c]⟩:Str)).map V.str) ⟨⟨none,rfl⟩,EW hp _,EU,rfl⟩ ?_ ?_ ?_
  · rintro i σ' ys H' hi ⟨_,_,h1,h2⟩;refine⟨h1,?_⟩;rw[h2,Ab,Ab];have:=List.length_filter_le (λc=>!FR c) (x.cps.toList.take i);rw[A4] at this;exact G2 (by omega)
  · rintro i y σ' ys H' N hy ⟨⟨v,rfl⟩,s,h1,h2⟩ hN;unfold L2.signs at hy;rw[A5] at hy;cases hc:x.cps.toList[i]? with
    | none=>rw[hc] at hy;cases hy
    | some c=>
     rw[hc] at hy;obtain rfl:V.str ⟨#[c]⟩=y:=A2 hy;refine⟨_,rfl,_,_,rfl,rfl,_,rfl,?_⟩;rw[Qb];cases hb:FR c with
     | true=> refine EK (hN _ _ _ ⟨⟨_,rfl⟩,s,h1,?_⟩);rw[h2,FS hc,List.filter_append,CZ,if_neg (by rw[hb];decide)];simp
     | false=> refine EL ⟨_,rfl,h1,hN _ _ _ ⟨⟨_,rfl⟩,Hy s hp,EU,?_⟩⟩;rw[h2,FS hc,List.filter_append,CZ,if_pos (by rw[hb];decide)];simp
  · rintro σ' ys H' ⟨_,s,h1,h2⟩;refine⟨Lm,λe he=>Qf (ts:=(x.cps.toList.filter λc=>!FR c).map λc=>(⟨#[c]⟩:Str)) (SqL.of (EW he _ _ _ (by rw[h1,h2,As (by rw[sl];exact Nat.le_of_eq (A3 ..))]))) (SqL.of EU) ?_⟩;rw[SM];refine qf _ ?_ _ (s.trans (EW he _));unfold FT;rw[decide_eq_true (show 1≤x.length by omega),decide_eq_true (show x.length≤8 by omega)];rfl
 | _=>exact⟨_,rfl,_,_,"str",false,rfl,hd.ty,rfl,_,rfl,EL (q _ (Same.refl _))⟩
theorem T5(F:Fun K "_law_is_rows" "_law_is_rows" Mx f fd)(E6:Γ35 P w K mg base):FnOk P w K mg base Fe 2 f fd ["thing","size"] (NK):=by
 refine F.ok DP (λvs H Q E h=>?_) (λcdv A outer s H vs Q E hr h=>?_)
 · obtain⟨v,d,n,rfl,n1,n3,hd,q⟩:=h;rfl
 obtain⟨v,d,n,rfl,n1,n3,hd,q⟩:=h;refine⟨_,(EQ (Fj (Fp (Fm (Fb (FD (n:="")) rfl B.isinstance_ FE (EJ (pv 0) (EJ (FG (v:= .ty "tuple") rfl B.tuple_ Gc rfl) EM))))) (ES (EV Fv)) Fi)
  (EQ (Ff (i:=2) DP.nd rfl (Or.inl rfl) Gm)
  (EQ (GL AI rfl (GT (pv 0)) (Fw (i:=3) DP.nd rfl (Or.inl rfl)) (EQ (Fj (PW.pt (FJ (Fp (Fm (Fb (FD (n:="")) rfl B.isinstance_ FE (EJ (pv 3) (EJ (FG (v:= .ty "tuple") rfl B.tuple_ Gc rfl) EM))))) (FJ (Fq HE (Fb Gj rfl B.len_ FP (EJ (pv 3) EM)) (pv 1) (Fd _)) (FJ (Fp (Fm (ET E6 (hr.mono (by decide)) rfl (EJ (Fc FN (pv 3) EN (λ_ _=>rfl)) EM)))) (Gf (Fq Md (Fc FN (pv 3) EN (λ_ _=>rfl)) (pv 2) (Fd _))))))) (ES (EV Fv)) Fi)
  (ES (Ff (i:=2) DP.nd rfl (Or.inl rfl) (Fc FN (pv 3) EN (λ_ _=>rfl))))))
  (ES (EV Fv))))),?_⟩
 cases d with
 | tup ds=>
  have hd0:=hd;rw[RepY] at hd;obtain⟨a,xs,rfl,ha,h9,hx⟩:=hd;have lx:=hx.length;refine⟨_,rfl,_,"tuple","tuple",true,rfl,.tup ha,rfl,_,rfl,EK ?_⟩;have qw:Ji n (.tup ds)=(ds.all (GJ n) && E_ ds):=rfl;rw[qw] at q;refine⟨_,rfl,a,rfl,⟨_,SqT.of ha⟩,LW (K:=K) (a:=a) (xs:=xs) (λi σ H'=>(∃y3,σ=[some (.ref a),some (.int (n:Int)),some (.str (Jh (ds.take i))),y3])∧Same H H'∧(ds.take i).all (GJ n)=true∧E_ (ds.take i)=true) ⟨⟨none,rfl⟩,Same.refl _,rfl,rfl⟩ (λi σ H' _ ⟨_,s,_⟩=>s.seqT (SqT.of ha)) ?_ ?_⟩
  · rintro i x σ H1 hx' ⟨⟨y3,rfl⟩,s1,al,as⟩;obtain⟨d1,e1,r1⟩:=hx.get hx';have bad:GJ n d1=false→∀H',Same H H'→Q (.bl false) H':=λhb H' s=>by
     have:=q H' s;rw[KL e1 hb,Bj] at this;exact this
    have r1':=r1.same s1;cases d1 with
    | tup es=>
     rw[RepY] at r1';obtain⟨c,ys,rfl,hc,c9,hy⟩:=r1';have ly:=hy.length;refine⟨_,rfl,_,"tuple","tuple",true,rfl,.tup hc,rfl,_,rfl,EK ⟨_,rfl,c,_,rfl,.inr (SqT.of hc),_,rfl,rfl,_,rfl,?_⟩⟩;by_cases hl:es.length=n
     · rw[decide_eq_true (show V.int (ys.length:Int)=V.int (n:Int) by rw[ly,hl])];refine EK ?_;cases es with
       | nil=>simp at hl;omega
       | cons d0 er=>
        obtain⟨x0,yr,rfl,r0,ry⟩:=hy.cons_of;refine⟨_,rfl,c,_,0,_,rfl,rfl,SqT.of hc,Ga,x0,d0,rfl,r0,λH2 s2=>⟨_,rfl,?_⟩⟩;have ro:GJ n (.tup (d0::er))=FK d0:=by show(decide ((d0::er).length=n) && FK d0)=_;rw[decide_eq_true hl,Ax]
        cases hf:FK d0 with
        | false=>exact EL (bad (ro.trans hf) _ (s1.trans s2))
        | true=>
         refine EK ?_;cases d0 with
         | str w0=>
          rw[RepY] at r0;obtain⟨rfl,_⟩:=r0;have hc2:=s2 _ _ hc;refine⟨_,rfl,c,_,0,_,rfl,rfl,SqT.of hc2,Ga,_,rfl,_,_,rfl,rfl,_,rfl,?_⟩;have hd1:Gy (.tup (.str w0::er))=some w0:=rfl;have lt:=QQ (L:=ds.take i) hd1 (O_ hf).1 λe he=>by obtain⟨y,r,rfl,_⟩:=Mn (Ay.mp al e he) n1;exact⟨y,rfl⟩
          have sn:=OC (ds.take i) (.tup (.str w0::er));rw[←lt,as,Ax,←FS e1] at sn;dsimp only;cases hlt:decide ((Jh (ds.take i)).cps.toList<w0.cps.toList) with
          | false=> rw[hlt] at sn;refine EL ?_;have:=q H2 (s1.trans s2);rw[Q5 sn,Bm] at this;exact this
          | true=>
           rw[hlt] at sn;refine EK ⟨_,rfl,c,_,0,_,rfl,rfl,SqT.of hc2,Ga,⟨some (.ref c),?_⟩,s1.trans s2,?_,sn⟩
           · have:Jh (ds.take (i+1))=w0:=by
              unfold Jh;rw[FS e1,C3];rfl
             rw[this];rfl
           · rw[FS e1,Bo,al,Ax,A9,ro,hf];rfl
         | _=>cases hf
     · rw[decide_eq_false (show ¬V.int (ys.length:Int)=V.int (n:Int) from λz=>hl (by injection z with z;omega))]
       refine EL (bad ?_ _ s1);show(decide (es.length=n) && _)=false;rw[decide_eq_false hl,Bj]
    | _=>exact⟨_,rfl,_,_,"tuple",false,rfl,r1'.ty,rfl,_,rfl,EL (bad rfl _ s1)⟩
  · rintro σ H1 ⟨_,s1,al,as⟩;rw[As (by omega)] at al as;have:=q H1 s1;rw[al,as] at this;exact this
 | _=>exact⟨_,rfl,_,_,"tuple",false,rfl,hd.ty,rfl,_,rfl,EL (q _ (Same.refl _))⟩
theorem T7(F:Fun K "_law_is_wish" "_law_is_wish" My f fd)(E7:Γ36 P w K mg base)(E8:Γ34 P w K mg base):FnOk P w K mg base Fe 3 f fd ["thing"] (F5 GF):=by
 refine F.ok DQ (λvs H Q E h=>?_) (λcdv A outer s H vs Q E hr h=>?_)
 · obtain⟨v,d,rfl,hd,q⟩:=h;rfl
 obtain⟨v,d,rfl,hd,q⟩:=h;refine⟨_,(EQ (Fj (Fp (Fm (ET E7 (hr.mono (by decide)) rfl (EJ (pv 0) (EJ EN EM))))) (ES (EV Fv)) Fi)
  (EQ (GL AI rfl (GT (pv 0)) (JG rfl (GH (Fw (i:=1) DQ.nd rfl (Or.inl rfl)) (GH (Fw (i:=2) DQ.nd rfl (Or.inl rfl)) (GH (Fw (i:=3) DQ.nd rfl (Or.inl rfl)) Jo)))) (EQ (Fj (PW.pt (G_ (KB (KH (pv 2))) (Ig (Fp (Fm (ET E8 (hr.mono (by decide)) rfl (EJ (pv 2) (EJ Im EM)))))))) (ES (EV Fv)) Fi)
  (EQ (Fj (PW.pt (G_ (KB (KH (pv 3))) (Ig (Fp (Fm (ET E8 (hr.mono (by decide)) rfl (EJ (pv 3) (EJ Im EM)))))))) (ES (EV Fv)) Fi)
  (ES (Fj (PW.pt (G_ (KB (KH (pv 2))) (G_ (KB (KH (pv 3))) (Ig (Fq Ho (pv 2) (pv 3) (Fd _)))))) (ES (EV Fv)) Fi)))))
  (ES (EV Fv)))),?_⟩
 refine⟨_,rfl,v,d,3,rfl,by decide,by decide,hd,λH0 s0=>⟨_,rfl,?_⟩⟩;cases d with
 | tup ds=>
  cases hr':Ji 3 (.tup ds) with
  | false=>
   refine EL ?_;cases hw:GF (.tup ds) with
   | true=>rw[Se hw] at hr';cases hr'
   | false=>rw[hw] at q;exact q _ s0
  | true=>
   refine EK ?_;have hr2:(ds.all (GJ 3) && E_ ds)=true:=hr';rw[Ah] at hr2;have qw:GF (.tup ds)=ds.all Gg:=by show(ds.all Gg && E_ ds)=_;rw[hr2.2,AZ]
   rw[qw] at q;rw[RepY] at hd;obtain⟨a,xs,rfl,ha,h9,hx⟩:=hd;have lx:=hx.length;have ha0:=s0 _ _ ha;have hx0:=hx.same s0;refine⟨_,rfl,a,rfl,⟨_,SqT.of ha0⟩,LW (K:=K) (a:=a) (xs:=xs) (λi σ H'=>(∃y1 y2 y3,σ=[some (.ref a),y1,y2,y3])∧Same H0 H'∧(ds.take i).all Gg=true) ⟨⟨none,none,none,rfl⟩,Same.refl _,rfl⟩ (λi σ H' _ ⟨_,s,_⟩=>s.seqT (SqT.of ha0)) ?_ ?_⟩
   · rintro i x σ H1 hx' ⟨⟨y1,y2,y3,rfl⟩,s1,al⟩;obtain⟨d1,e1,r1⟩:=hx0.get hx';have bad:Gg d1=false→∀H',Same H0 H'→Q (.bl false) H':=λhb H' s=>by
      have:=q H' (s0.trans s);rw[KL e1 hb] at this;exact this
     have rk:=Ay.mp hr2.1 d1 (AO e1);obtain⟨w0,er,rfl,hf,hl⟩:=Mn rk (by decide);obtain⟨lo,hi,rfl⟩:=JI (show er.length=2 by omega);have r1':=r1.same s1;rw[RepY] at r1';obtain⟨c,ys,rfl,hc,c9,hy⟩:=r1';obtain⟨x0,x1,x2,rfl,r0,rl,rh⟩:=hy.three;have wp:Gg (.tup [.str w0,lo,hi])=(Fu lo && Fu hi && HR lo hi):=by show(FT w0 && (Fu lo && Fu hi && HR lo hi))=_;rw[hf,Ax]
     refine⟨c,_,rfl,SqT.of hc,rfl,_,_,rfl,_,_,rfl,_,_,rfl,rfl,?_⟩;refine OG rfl rl λH2 s2=>?_;cases el:Fu lo with
     | false=>exact EL (bad (by rw[wp,el];rfl) _ (s1.trans s2))
     | true=>
      refine EK ?_;refine OG rfl (rh.same s2) λH3 s3=>?_;have t3:=s1.trans (s2.trans s3);cases eh:Fu hi with
      | false=>exact EL (bad (by rw[wp,el,eh];rfl) _ t3)
      | true=>
       refine EK ?_;have wl:Gg (.tup [.str w0,lo,hi])=HR lo hi:=by rw[wp,el,eh];rfl
       have good:HR lo hi=true→(∃z1 z2 z3,([some (.ref a),some x0,some x1,some x2]:L2.St)=[some (.ref a),z1,z2,z3])∧Same H0 H3∧(ds.take (i+1)).all Gg=true:=λh=>⟨⟨_,_,_,rfl⟩,t3,by rw[FS e1,Bo,al,Ax,A9,wl,h];rfl⟩;cases lo with
       | non=> rw[RepY] at rl;subst rl;exact⟨_,rfl,_,rfl,EK (EK (good rfl))⟩
       | int i1=>
        rw[RepY] at rl;subst rl;cases hi with
        | non=> rw[RepY] at rh;subst rh;exact⟨_,rfl,_,rfl,EL ⟨_,rfl,_,rfl,EK (EK (good rfl))⟩⟩
        | int i2=>
         rw[RepY] at rh;subst rh;refine⟨_,rfl,_,rfl,EL ⟨_,rfl,_,rfl,EL ⟨_,rfl,_,rfl,_,_,rfl,rfl,_,rfl,F7 (λh=>?_) (λh=>?_)⟩⟩⟩
         · have h:=of_decide_eq_true h;exact bad (by rw[wl];exact decide_eq_false (by omega)) _ t3
         · exact good (decide_eq_true (by have:¬i2<i1:=λz=>h (decide_eq_true z);omega))
        | _=>cases eh
       | _=>cases el
   · rintro σ H1 ⟨_,s1,al⟩;rw[As (by omega)] at al;rw[al] at q;exact q _ (s0.trans s1)
 | _=>exact EL (q _ s0)
theorem T4(F:Fun K "_law_is_news" "_law_is_news" Lb f fd)(E7:Γ36 P w K mg base)(E8:Γ34 P w K mg base):FnOk P w K mg base Fe 3 f fd ["thing"] (Ha GI):=by
 refine F.ok TD (λvs H Q E h=>?_) (λcdv A outer s H vs Q E hr h=>?_)
 · obtain⟨v,ds,rfl,hd,_,q⟩:=h;rfl
 obtain⟨v,ds,rfl,hd,_,q⟩:=h;refine⟨_,(EQ (Fj (PW.pt (FJ (Fq HE (Fb Gj rfl B.len_ FP (EJ (pv 0) EM)) EN (Fd _)) (FJ (Fp (Fm (ET E8 (hr.mono (by decide)) rfl (EJ (Fc FN (pv 0) EN (λ_ _=>rfl)) (EJ EN EM))))) (Gf (Fp (Fm (ET E8 (hr.mono (by decide)) rfl (EJ (Fc FN (pv 0) EN (λ_ _=>rfl)) (EJ EN EM))))))))) (ES (EV Fv)) Fi)
  (EQ (Fj (Fp (Fm (ET E7 (hr.mono (by decide)) rfl (EJ (Fc FN (pv 0) EN (λ_ _=>rfl)) (EJ EN EM))))) (ES (EV Fv)) Fi)
  (ES (EV (Gw (NB (JP hr)) (G8 (N':=["row"]) (js:=[none]) rfl (G7 (N:=["thing"]) (outer:=Fa Lb) (by decide+kernel)) (GT (Fc FN (pv 0) EN (λ_ _=>rfl))) (λ_ _ _ _ _=>(Fw (i:=0) M_ rfl (Or.inl rfl))) (λ_ _ _ _ _=>KM (Fp (Fm (ET E8 (hr.mono (by decide)) rfl (EJ (Fc (Jp K rfl) (pv 0) EN (λ_ _=>rfl)) (EJ Im EM)))))) (λ_ _ _ _ _=>(pv 0))) (Gk EM) (Fd _)))))),?_⟩
 have hd0:=hd;rw[RepY] at hd;obtain⟨a,xs,rfl,ha,h9,hx⟩:=hd;have lx:=hx.length;have qn:∀b,GI ds=b→∀H',Same H H'→Q (.bl b) H':=λb e H' s=>by rw[←e];exact q H' s
 refine⟨_,rfl,a,_,rfl,.inr (SqT.of ha),rfl,_,rfl,?_⟩;by_cases hl:ds.length=3
 · rw[decide_eq_true (show V.int (xs.length:Int)=V.int 3 by rw[lx,hl];rfl)];refine EK ?_;obtain⟨d0,d1,d2,rfl⟩:=O8 hl;obtain⟨x0,x1,x2,rfl,r0,r1,r2⟩:=hx.three;have w0:∀d,JE d (some 0)=Fg d:=λd=>by cases d<;>rfl
   have qw:GI [d0,d1,d2]=(Fg d0 && (Fg d1 && G0 d2)):=rfl;refine⟨_,rfl,a,_,0,_,rfl,rfl,SqT.of ha,Ga,x0,d0,some 0,rfl,r0,λH1 s1=>⟨_,rfl,?_⟩⟩;rw[w0];cases h0:Fg d0 with
   | false=>exact EL (qn _ (by rw[qw,h0];rfl) _ s1)
   | true=>
    refine EK ⟨_,rfl,a,_,1,_,rfl,rfl,SqT.of (s1 _ _ ha),rfl,x1,d1,some 0,rfl,r1.same s1,λH2 s2=>⟨_,rfl,?_⟩⟩;rw[w0];have t2:=s1.trans s2;cases h1:Fg d1 with
    | false=>exact EL (qn _ (by rw[qw,h0,h1];rfl) _ t2)
    | true=>
     refine EK ⟨_,rfl,a,_,2,_,rfl,rfl,SqT.of (t2 _ _ ha),rfl,x2,d2,2,rfl,by decide,by decide,r2.same t2,λH3 s3=>⟨_,rfl,?_⟩⟩;have t3:=t2.trans s3;have qp:GI [d0,d1,d2]=G0 d2:=by rw[qw,h0,h1];rfl
     rw[qp] at q qn;cases hr':Ji 2 d2 with
     | false=>
      refine EL (qn _ ?_ _ t3);cases d2 with
      | tup es=>
       cases hw:G0 (.tup es) with
       | true=>rw[RJ hw] at hr';cases hr'
       | false=>rfl
      | _=>rfl
     | true=>
      refine EK ?_;cases d2 with
      | tup es=>
       have hr2:(es.all (GJ 2) && E_ es)=true:=hr';rw[Ah] at hr2;have qe:G0 (.tup es)=es.all Gs:=by show(es.all Gs && E_ es)=_;rw[hr2.2,AZ]
       rw[RepY] at r2;obtain⟨c,ys,rfl,hc,c9,hy⟩:=r2;have ly:=hy.length;have hc3:=t3 _ _ hc;have hy3:=hy.same t3;refine⟨_,rfl,a,_,2,_,rfl,rfl,SqT.of (t3 _ _ ha),rfl,c,rfl,⟨_,SqT.of hc3⟩,λp hp=>?_⟩;refine Jn (xs:=ys) (λi σ' zs H'=>(∃v,σ'=[v])∧Same H3 H'∧H' p=some (.lst zs)∧zs.length≤i∧zs.isEmpty=(es.take i).all Gs) ⟨⟨none,rfl⟩,EW hp _,EU,Ae _,rfl⟩ ?_ ?_ ?_
       · rintro i σ' zs H' hi ⟨_,s,k1,k2,_⟩;exact⟨s.seqT (SqT.of hc3),k1,G2 (by omega)⟩
       · rintro i x σ' zs H4 N hx' ⟨⟨v,rfl⟩,s,k1,k2,k3⟩ hN;obtain⟨g,e1,rg⟩:=hy3.get hx';obtain⟨w1,er,rfl,hf,hl'⟩:=Mn (Ay.mp hr2.1 g (AO e1)) (by decide);obtain⟨nn,rfl⟩:=K6 (show er.length=1 by omega);have rg':=rg.same s;rw[RepY] at rg';obtain⟨c2,us,rfl,hc2,_,hu⟩:=rg';obtain⟨u0,u1,rfl,_,ru⟩:=hu.two;refine⟨_,rfl,c2,_,1,_,rfl,rfl,SqT.of hc2,rfl,u1,nn,none,rfl,ru,λH5 s5=>⟨_,rfl,?_⟩⟩;have pp:Gs (.tup [.str w1,nn])=HG nn:=by
          show(FT w1 && HG nn)=_;rw[hf,Ax]
         have wn:JE nn none=HG nn:=by cases nn<;>rfl
         rw[wn];cases hw:HG nn with
         | true=> refine EK (hN _ _ _ ⟨⟨_,rfl⟩,s.trans s5,s5 _ _ k1,by omega,?_⟩);rw[FS e1,Bo,←k3,A9,pp,hw];simp
         | false=> refine EL ⟨_,rfl,s5 _ _ k1,hN _ _ _ ⟨⟨_,rfl⟩,Hy (s.trans s5) hp,EU,by rw[Ai];simp;omega,?_⟩⟩;rw[FS e1,Bo,A9,pp,hw];simp
       · rintro σ' zs H4 ⟨_,s,k1,k2,k3⟩;rw[As (by omega)] at k3;refine⟨HC,λep hep=>?_⟩;have s6:=EW hep (.lst []);refine⟨p,ep,zs,rfl,rfl,s6 _ _ k1,EU,?_⟩;rw[k3,←qe];exact q _ (t3.trans (s.trans s6))
      | _=>cases hr'
 · have:GI ds=false:=by
    match ds,hl with
    | [],_=>rfl
    | [_],_=>rfl
    | [_,_],_=>rfl
    | [_,_,_],h=>exact absurd rfl h
    | _::_::_::_::_,_=>rfl
   rw[decide_eq_false (show ¬V.int (xs.length:Int)=V.int 3 from λz=>hl (by injection z with z;omega))]
   exact EL (qn _ this _ (Same.refl _))
theorem SU(F:Fun K "_law_is_way" "_law_is_way" Lg f fd)(E8:Γ34 P w K mg base):FnOk P w K mg base Fe 2 f fd ["thing"] (F5 F9):=by
 refine F.ok DR (λvs H Q E h=>?_) (λcdv A outer s H vs Q E hr h=>?_)
 · obtain⟨v,d,rfl,hd,q⟩:=h;rfl
 obtain⟨v,d,rfl,hd,q⟩:=h;refine⟨_,(EQ (Fj (PW.pt (FJ (Fp (Fm (Fb (FD (n:="")) rfl B.isinstance_ FE (EJ (pv 0) (EJ (FG (v:= .ty "tuple") rfl B.tuple_ Gc rfl) EM))))) (Gf (Fq HZ (Fb Gj rfl B.len_ FP (EJ (pv 0) EM)) EN (Fd _))))) (ES (EV Fv)) Fi)
  (EQ (GL AI rfl (Ip rfl B.range_ (EJ (Fb Gj rfl B.len_ FP (EJ (pv 0) EM)) EM)) (Fw (i:=1) DR.nd rfl (Or.inr rfl)) (ES (Fj (PW.pt (FJ (Fp (Fm (ET E8 (hr.mono (by decide)) rfl (EJ (Fc FN (pv 0) (pv 1) (λ_ _=>rfl)) (EJ EN EM))))) (Gf (Fq (Qs (JP hr)) (G8 (N':=["one","thing","k"]) (js:=[none,some 0,some 1]) rfl (G7 (N:=["thing","k"]) (outer:=Fa Lg) (by decide+kernel)) (GT (FO G4 (pv 0) FX (FL (pv 1)))) (λ_ _ _ _ _=>(Fw (i:=0) Km rfl (Or.inl rfl))) (λ_ _ _ _ _=>KM (Fq Gb (pv 0) (Fc (Jp K rfl) (pv 1) (pv 2) (λ_ _=>rfl)) (Fd _))) (λ_ _ _ _ _=>(pv 0))) (Gk EM) (Fd _))))) (ES (EV Fv)) Fi)))
  (ES (EV Fv)))),?_⟩
 cases d with
 | tup ds=>
  have hd0:=hd;rw[RepY] at hd;obtain⟨a,xs,rfl,ha,h9,hx⟩:=hd;have lx:=hx.length;refine⟨_,rfl,_,"tuple","tuple",true,rfl,.tup ha,rfl,_,rfl,EK ⟨_,rfl,a,_,rfl,.inr (SqT.of ha),_,_,rfl,rfl,_,rfl,?_⟩⟩;have qw:F9 (.tup ds)=Gn ds:=rfl;rw[qw] at q;refine F7 (λh=>?_) (λh=>?_)
  · have h:=of_decide_eq_true h;rw[O9 (by omega)] at q;exact q _ (Same.refl _)
  have h2:2≤ds.length:=by have:¬((xs.length:Int)<2):=λz=>h (decide_eq_true z);omega
  rw[Ov h2] at q;refine⟨_,rfl,a,_,rfl,.inr (SqT.of ha),_,rfl,by omega,by omega,IN (lo:=0) (n:=xs.length) (λi σ H'=>(∃y1,σ=[some (.ref a),y1])∧Same H H'∧(ds.take i).all Fg=true∧((ds.take i).map F8).Nodup) ⟨⟨none,rfl⟩,Same.refl _,rfl,List.nodup_nil⟩ ?_ ?_⟩
  · rintro k σ H1 hk ⟨⟨y1,rfl⟩,s1,al,nd⟩;have ha1:=s1 _ _ ha;obtain⟨x,ex⟩:∃x,xs[k]?=some x:=⟨xs[k],AB hk⟩;obtain⟨d1,e1,r1⟩:=hx.get ex;have hat:F_ xs (0+(k:Int))=some x:=by rw[Int.zero_add];exact Ib ex
    refine⟨_,rfl,_,rfl,a,_,_,_,rfl,rfl,SqT.of ha1,hat,x,d1,some 0,rfl,r1.same s1,λH2 s2=>⟨_,rfl,?_⟩⟩;have wn:JE d1 (some 0)=Fg d1:=by cases d1<;>rfl
    rw[wn];cases hn:Fg d1 with
    | false=> refine EL ?_;have:=q H2 (s1.trans s2);rw[KL e1 hn,Bj] at this;exact this
    | true=>
     refine EK ?_;obtain⟨m,rfl,m0⟩:=KW hn;rw[RepY] at r1;subst r1;have ha2:=s2 _ _ ha1;refine⟨_,rfl,_,rfl,_,rfl,a,_,rfl,ha2,λp1 H3 s3 e3=>?_⟩;rw[Int.zero_add,NS xs k] at e3;have ek:xs.take k=((ds.take k).map F8).map V.int:=LY (hx.take k) al;rw[ek] at e3;have ha3:=s3 _ _ ha2;refine⟨p1,rfl,⟨_,SqT.of e3⟩,λp hp=>?_⟩;generalize hns:(ds.take k).map F8=ns at*;have lns:ns.length≤900:=by rw[←hns,Ab,A4];omega
     refine Jn (xs:=ns.map V.int) (λi σ' zs H'=>(∃v,σ'=[v,some (.ref a),some (.int (0+(k:Int)))])∧Same H3 H'∧H' p=some (.lst zs)∧zs.length≤i∧(zs.isEmpty=true↔m ∉ ns.take i)) ⟨⟨none,rfl⟩,EW hp _,EU,Ae _,by simp⟩ ?_ ?_ ?_
     · rintro i σ' zs H' hi ⟨_,s,k1,k2,_⟩;rw[Ab] at hi;exact⟨s.seqT (SqT.of e3),k1,G2 (by omega)⟩
     · rintro i y σ' zs H4 N hy ⟨⟨v,rfl⟩,s,k1,k2,k3⟩ hN;rw[A5] at hy;cases en:ns[i]? with
       | none=>rw[en] at hy;cases hy
       | some j=>
        rw[en] at hy;obtain rfl:V.int j=y:=A2 hy;refine⟨_,rfl,_,rfl,_,rfl,a,_,_,_,rfl,rfl,SqT.of (s _ _ ha3),hat,rfl,_,rfl,F7 (λhj=>?_) (λhj=>?_)⟩
        · have hj:j=m:=by have:=of_decide_eq_true hj;injection this
          refine⟨_,rfl,k1,hN _ _ _ ⟨⟨_,rfl⟩,Hy s hp,EU,by rw[Ai];simp;omega,?_⟩⟩;rw[FS en,hj];simp
        · have hj:j≠m:=λz=>hj (decide_eq_true (by rw[z]));refine hN _ _ _ ⟨⟨_,rfl⟩,s,k1,by omega,?_⟩;rw[FS en,k3];simp[hj.symm]
     · rintro σ' zs H4 ⟨_,s,k1,k2,k3⟩;rw[Ab,BQ] at k3;refine⟨HC,λep hep=>?_⟩;have s6:=EW hep (.lst []);have t6:=s1.trans (s2.trans (s3.trans (s.trans s6)));refine⟨p,ep,zs,rfl,rfl,s6 _ _ k1,EU,_,rfl,?_⟩;cases hz:zs.isEmpty with
       | false=>
        refine EL ?_;have mm:m∈ns:=Classical.byContradiction λc=>by rw[k3.mpr c] at hz;cases hz
        have:=q _ t6;rw[Rz e1 (by rw[hns];exact mm),Bm] at this;exact this
       | true=>
        refine EK ⟨⟨_,rfl⟩,t6,?_,?_⟩
        · rw[FS e1,Bo,al,Ax,A9,hn];rfl
        · rw[FS e1,Am,hns,Cj];refine⟨nd,by simp,λu hu w hw=>?_⟩;rw[AH,List.map_nil,Ao] at hw;subst hw;exact λz=>k3.mp hz (z ▸ hu)
  · rintro σ H1 ⟨_,s1,al,nd⟩;rw[As (by omega)] at al nd;have:=q H1 s1;rw[al,decide_eq_true nd] at this;exact this
 | _=>exact⟨_,rfl,_,_,"tuple",false,rfl,hd.ty,rfl,_,rfl,EL (q _ (Same.refl _))⟩
theorem T3(F:Fun K "_law_is_kept" "_law_is_kept" La f fd)(E8:Γ34 P w K mg base)(E9:Γ38 P w K mg base):FnOk P w K mg base Fe 4 f fd ["marks","pieces"] (NI):=by
 refine F.ok DS (λvs H Q E h=>?_) (λcdv A outer s H vs Q E hr h=>?_)
 · obtain⟨v,v',d,d',rfl,hd,hd',q⟩:=h;rfl
 obtain⟨v,v',d,d',rfl,hd,hd',q⟩:=h;refine⟨_,(EQ (Fj (PW.pt (FJ (Fp (Fm (Fb (FD (n:="")) rfl B.isinstance_ FE (EJ (pv 0) (EJ (FG (v:= .ty "tuple") rfl B.tuple_ Gc rfl) EM))))) (Gf (Fp (Fm (Fb (FD (n:="")) rfl B.isinstance_ FE (EJ (pv 1) (EJ (FG (v:= .ty "tuple") rfl B.tuple_ Gc rfl) EM)))))))) (ES (EV Fv)) Fi)
  (EQ (Ff (i:=2) DS.nd rfl (Or.inl rfl) (JC JD EN))
  (EQ (GL AI rfl (GT (pv 0)) (Fw (i:=3) DS.nd rfl (Or.inl rfl)) (EQ (Fj (PW.pt (FJ (Fp (Fm (Fb (FD (n:="")) rfl B.isinstance_ FE (EJ (pv 3) (EJ (FG (v:= .ty "tuple") rfl B.tuple_ Gc rfl) EM))))) (FJ (Fq HE (Fb Gj rfl B.len_ FP (EJ (pv 3) EM)) EN (Fd _)) (Gf (Fp (Fm (ET E8 (hr.mono (by decide)) rfl (EJ (Fc FN (pv 3) EN (λ_ _=>rfl)) (EJ (EX Gd (pv 2) EN) EM))))))))) (ES (EV Fv)) Fi)
  (EQ (Fj (Fp (Fm (ET E8 (hr.mono (by decide)) rfl (EJ (Fc FN (pv 3) EN (λ_ _=>rfl)) (EJ EN EM))))) (ES (EV Fv)) Fi)
  (ES (Ff (i:=2) DS.nd rfl (Or.inl rfl) (Fc FN (pv 3) EN (λ_ _=>rfl)))))))
  (ES (EV (Gw (NB (JP hr)) (G8 (N':=["one"]) (js:=[none]) rfl (G7 (N:=["marks","pieces","last","mark"]) (outer:=Fa La) (by decide+kernel)) (GT (pv 1)) (λ_ _ _ _ _=>(Fw (i:=0) Kl rfl (Or.inl rfl))) (λ_ _ _ _ _=>KM (PW.pt (FJ (Fp (Fm (Fb (Ta K rfl) rfl B.isinstance_ FE (EJ (pv 0) (EJ (FG (v:= .ty "tuple") rfl B.tuple_ Gc rfl) EM))))) (Gf (Fp (Fm (ET E9 (hr.mono (by decide)) rfl (EJ (pv 0) EM)))))))) (λ_ _ _ _ _=>(pv 0))) (Gk EM) (Fd _))))))),?_⟩
 have fin1:∀H',Same H H'→GA d'=false→Q (.bl false) H':=λH' s e=>by have:=q H' s;rw[e,Bm] at this;exact this
 have fin0:∀H',Same H H'→GS d=false→Q (.bl false) H':=λH' s e=>by have:=q H' s;rw[e,Bj] at this;exact this
 cases d with
 | tup ds=>
  rw[RepY] at hd;obtain⟨a,xs,rfl,ha,h9,hx⟩:=hd;have lx:=hx.length;refine⟨_,rfl,_,"tuple","tuple",true,rfl,.tup ha,rfl,_,rfl,EK ?_⟩;cases d' with
  | tup es=>
   rw[RepY] at hd';obtain⟨a',xs',rfl,ha',h9',hx2⟩:=hd';have lx':=hx2.length;refine⟨_,rfl,_,"tuple","tuple",true,rfl,.tup ha',rfl,_,rfl,EK ?_⟩;have qm:GS (.tup ds)=(ds.all Gu && Fl ds):=rfl;refine⟨_,rfl,_,rfl,a,rfl,⟨_,SqT.of ha⟩,LW (K:=K) (a:=a) (xs:=xs) (λi σ H'=>(∃y3,σ=[some (.ref a),some (.ref a'),some (.int (Hm (ds.take i))),y3])∧Same H H'∧(ds.take i).all Gu=true∧Fl (ds.take i)=true) ⟨⟨none,rfl⟩,Same.refl _,rfl,rfl⟩ (λi σ H' _ ⟨_,s,_⟩=>s.seqT (SqT.of ha)) ?_ ?_⟩
   · rintro i x σ H1 hx' ⟨⟨y3,rfl⟩,s1,al,as⟩;obtain⟨d1,e1,r1⟩:=hx.get hx';have bad:Gu d1=false→∀H',Same H H'→Q (.bl false) H':=λhb H' s=>fin0 H' s (by rw[qm,KL e1 hb,Bj]);have r1':=r1.same s1;cases d1 with
     | tup fs=>
      rw[RepY] at r1';obtain⟨c,ys,rfl,hc,c9,hy⟩:=r1';have ly:=hy.length;refine⟨_,rfl,_,"tuple","tuple",true,rfl,.tup hc,rfl,_,rfl,EK ⟨_,rfl,c,_,rfl,.inr (SqT.of hc),rfl,_,rfl,?_⟩⟩;by_cases hl:fs.length=2
      · rw[decide_eq_true (show V.int (ys.length:Int)=V.int 2 by rw[ly,hl];rfl)];refine EK ?_;obtain⟨m0,m1,rfl⟩:=JI hl;obtain⟨x0,x1,rfl,r0,rm1⟩:=hy.two;refine⟨_,rfl,c,_,0,_,rfl,rfl,SqT.of hc,Ga,_,rfl,_,_,rfl,rfl,x0,m0,some (Hm (ds.take i)+1),rfl,r0,λH2 s2=>⟨_,rfl,?_⟩⟩;have mk:Gu (.tup [m0,m1])=(Fg m0 && Fg m1):=rfl;cases m0 with
        | int i0=>
         have st:=R9 (d:= .tup [.int i0,m1]) (i:=i0) rfl al as;show if(!decide (Hm (ds.take i)+1≤i0))=true then _ else _
         by_cases hs:Hm (ds.take i)+1≤i0
         · rw[decide_eq_true hs];obtain⟨i00,as2⟩:=st.mp hs;refine EK ⟨_,rfl,c,_,1,_,rfl,rfl,SqT.of (s2 _ _ hc),rfl,x1,m1,some 0,rfl,rm1.same s2,λH3 s3=>⟨_,rfl,?_⟩⟩;have wn:JE m1 (some 0)=Fg m1:=by cases m1<;>rfl
           rw[wn];have t3:=s1.trans (s2.trans s3);cases hn:Fg m1 with
           | false=>exact EL (bad (by rw[mk,hn,Bm]) _ t3)
           | true=>
            rw[RepY] at r0;subst r0;refine EK ⟨_,rfl,c,_,0,_,rfl,rfl,SqT.of (s3 _ _ (s2 _ _ hc)),Ga,⟨some (.ref c),?_⟩,t3,?_,?_⟩
            · rw[FS e1,Sl];rfl
            · rw[FS e1,Bo,al,Ax,A9,mk,hn];show(decide (0≤i0) && true && true)=true;rw[decide_eq_true i00];rfl
            · rw[FS e1];exact as2
         · rw[decide_eq_false hs];refine EL ?_;by_cases i00:0≤i0
           · refine fin0 _ (s1.trans s2) ?_;have:Fl (ds.take (i+1))=false:=by
              rw[FS e1];exact DA.mpr λz=>hs (st.mpr ⟨i00,z⟩)
             rw[qm,Rv this,Bm]
           · exact bad (by rw[mk];show(decide (0≤i0) && _)=false;rw[decide_eq_false i00];rfl) _ (s1.trans s2)
        | _=>exact EL (bad rfl _ (s1.trans s2))
      · have:Gu (.tup fs)=false:=by
         match fs,hl with
         | [],_=>rfl
         | [_],_=>rfl
         | [_,_],h=>exact absurd rfl h
         | _::_::_::_,_=>rfl
        rw[decide_eq_false (show ¬V.int (ys.length:Int)=V.int 2 from λz=>hl (by injection z with z;omega))]
        exact EL (bad this _ s1)
     | _=>exact⟨_,rfl,_,_,"tuple",false,rfl,r1'.ty,rfl,_,rfl,EL (bad rfl _ s1)⟩
   · rintro σ H1 ⟨⟨y3,rfl⟩,s1,al,as⟩;rw[As (by omega)] at al as;rw[qm,al,as,Ax,Ax] at q;have ha1:=s1 _ _ ha';have hx1:=hx2.same s1;refine⟨_,rfl,a',rfl,⟨_,SqT.of ha1⟩,λp hp=>?_⟩;refine Jn (xs:=xs') (λi σ' zs H'=>(∃v,σ'=[v])∧Same H1 H'∧H' p=some (.lst zs)∧zs.length≤i∧zs.isEmpty=(es.take i).all HB) ⟨⟨none,rfl⟩,EW hp _,EU,Ae _,rfl⟩ ?_ ?_ ?_
     · rintro i σ' zs H' hi ⟨_,s,k1,k2,_⟩;exact⟨s.seqT (SqT.of ha1),k1,G2 (by omega)⟩
     · rintro i x σ' zs H4 N hx' ⟨⟨v,rfl⟩,s,k1,k2,k3⟩ hN;obtain⟨g,e1,rg⟩:=hx1.get hx';have rg':=rg.same s;have no:HB g=false→∀H5,Same H4 H5→H5 p=some (.lst zs)∧N [some x] (zs++[x]) (EO H5 p (.lst (zs++[x]))):=λhb H5 s5=>by
        refine⟨s5 _ _ k1,hN _ _ _ ⟨⟨_,rfl⟩,Hy (s.trans s5) hp,EU,by rw[Ai];simp;omega,?_⟩⟩;rw[FS e1,Bo,A9,hb];simp
       cases g with
       | tup gs=>
        have rg0:=rg';rw[RepY] at rg';obtain⟨c2,us,rfl,hc2,_,hu⟩:=rg';refine⟨_,rfl,_,"tuple","tuple",true,rfl,.tup hc2,rfl,_,rfl,EK ⟨_,rfl,.ref c2,gs,rfl,rg0,trivial,λH5 s5=>⟨_,rfl,?_⟩⟩⟩;cases hn:GI gs with
        | false=>exact EL ⟨_,rfl,no hn H5 s5⟩
        | true=> refine EK (hN _ _ _ ⟨⟨_,rfl⟩,s.trans s5,s5 _ _ k1,by omega,?_⟩);have:HB (.tup gs)=true:=hn;rw[FS e1,Bo,←k3,A9,this];simp
       | _=>exact⟨_,rfl,_,_,"tuple",false,rfl,rg'.ty,rfl,_,rfl,EL ⟨_,rfl,no rfl H4 (Same.refl _)⟩⟩
     · rintro σ' zs H4 ⟨_,s,k1,k2,k3⟩;rw[As (by omega)] at k3;refine⟨HC,λep hep=>?_⟩;have s6:=EW hep (.lst []);refine⟨p,ep,zs,rfl,rfl,s6 _ _ k1,EU,?_⟩;rw[k3];exact q _ (s1.trans (s.trans s6))
  | _=>exact⟨_,rfl,_,_,"tuple",false,rfl,hd'.ty,rfl,_,rfl,EL (fin1 _ (Same.refl _) rfl)⟩
 | _=>exact⟨_,rfl,_,_,"tuple",false,rfl,hd.ty,rfl,_,rfl,EL (fin0 _ (Same.refl _) rfl)⟩
theorem Tx(F:Fun K "_law_is_letter" "_law_is_letter" M7 f fd)(E9:Γ38 P w K mg base)(EA:Γ40 P w K mg base)(EB:Γ37 P w K mg base)(E6:Γ35 P w K mg base)(EC:Γ39 P w K mg base):FnOk P w K mg base Fe 5 f fd ["thing"] (F5 Ic):=by
 refine F.ok DT (λvs H Q E h=>?_) (λcdv A outer s H vs Q E hr h=>?_)
 · obtain⟨v,d,rfl,hd,q⟩:=h;rfl
 obtain⟨v,d,rfl,hd,q⟩:=h;refine⟨_,(EQ (Fj (PW.pt (FJ (Fp (Fm (Fb (FD (n:="")) rfl B.isinstance_ FE (EJ (pv 0) (EJ (FG (v:= .ty "tuple") rfl B.tuple_ Gc rfl) EM))))) (Gf (Fq (Qr (JP hr)) (pv 0) (FW EM) (Fd _))))) (ES (EV Fv)) Fi)
  (EQ (Ff (i:=1) DT.nd rfl (Or.inl rfl) (Fc FN (pv 0) EN (λ_ _=>rfl)))
  (EQ (Fj (Fp (Fm (Fb (FD (n:="")) rfl B.isinstance_ FE (EJ (pv 1) (EJ (FG (v:= .ty "str") rfl B.str_ JK rfl) EM))))) (ES (EV Fv)) Fi)
  (EQ (Fj (PW.pt (FJ (Fq Gb (pv 1) Gm (Fd _)) (Gf (Fq Gb (pv 1) Gm (Fd _))))) (ES (EV (Ge (Gw Gb (Fb Gj rfl B.len_ FP (EJ (pv 0) EM)) EN (Fd _)) (Gr (ET EB (hr.mono (by decide)) rfl (EJ (Fc FN (pv 0) EN (λ_ _=>rfl)) EM)))))) Fi)
  (EQ (Fj (Fq Gb (pv 1) Gm (Fd _)) (ES (EV (ET E9 (hr.mono (by decide)) rfl (EJ (FO G4 (pv 0) (FL EN) FX) EM)))) Fi)
  (EQ (Fj (PW.pt (FJ (PW.pt (G_ (Fq HE (pv 1) Gm (Fd _)) (Ig (Fq HE (pv 1) Gm (Fd _))))) (Gf (Fq HE (Fb Gj rfl B.len_ FP (EJ (pv 0) EM)) (Fc FU (Gk (EJ EN (EJ EN EM))) (Jq OK rfl B.int_ JJ (EJ (Gw Gb (pv 1) Gm (Fd _)) EM)) (λ_ _=>rfl)) (Fd _))))) (ES (EV Fv)) Fi)
  (EQ (Fj (PW.pt (FJ (Fp (Fm (ET E6 (hr.mono (by decide)) rfl (EJ (Fc FN (pv 0) EN (λ_ _=>rfl)) EM)))) (Gf (Fp (Fm (ET EC (hr.mono (by decide)) rfl (EJ (Fc FN (pv 0) EN (λ_ _=>rfl)) EM))))))) (ES (EV Fv)) Fi)
  (ES (EV (JB (Gw Gb (pv 1) Gm (Fd _)) (Gr (ET EA (hr.mono (by decide)) rfl (EJ (Fc FN (pv 0) EN (λ_ _=>rfl)) (EJ (Fc FN (pv 0) EN (λ_ _=>rfl)) EM)))))))))))))),?_⟩
 cases d with
 | tup ds=>
  have hd0:=hd;rw[RepY] at hd;obtain⟨a,xs,rfl,ha,h9,hx⟩:=hd;have lx:=hx.length;refine⟨_,rfl,_,"tuple","tuple",true,rfl,.tup ha,rfl,_,rfl,EK ⟨_,rfl,HC,λe0 he0=>?_⟩⟩;have s0:=EW he0 (.tup []);have c0:(EO H e0 (.tup [])) e0=some (.tup []):=EU;generalize EO H e0 (.tup [])=H0 at*;have ha0:=s0 _ _ ha;refine⟨a,e0,xs,rfl,rfl,ha0,c0,_,rfl,?_⟩;cases ds with
  | nil=>
   cases xs with
   | nil=>exact EL (q _ s0)
   | cons x xr=>cases lx
  | cons d0 r=>
   obtain⟨x,xr,rfl,r0,rr⟩:=hx.cons_of;have lr:=rr.length;refine EK ⟨_,rfl,a,_,0,_,rfl,rfl,SqT.of ha0,Ga,?_⟩;refine⟨_,rfl,_,_,"str",_,rfl,(r0.same s0).ty,Oc K d0,_,rfl,?_⟩;cases hs0:K0 d0 with
   | false=>
    refine EL ?_;have:Ic (.tup (d0::r))=false:=by
     cases d0 with
     | str x=>cases hs0
     | _=>rfl
    rw[←this];exact q _ s0
   | true=>
    obtain⟨w',rfl⟩:=Pb hs0;rw[RepY] at r0;obtain⟨rfl,_⟩:=r0;have qf:∀b,FQ w' r=b→∀H',Same H0 H'→Q (.bl b) H':=λb e H' s=>by rw[←e];exact q H' (s0.trans s)
    have rr0:=rr.same s0;refine EK ?_;refine Qt rfl ?_;cases c1:(decide (w'="want") || decide (w'="unwant")) with
    | true=>
     refine EL ⟨_,rfl,a,_,rfl,.inr (SqT.of ha0),rfl,_,rfl,?_⟩;have ef:FQ w' r=Hr r:=by
      unfold FQ;rw[Bool.or_eq_true,decide_eq_true_iff,decide_eq_true_iff] at c1;by_cases h:w'="want"
      · rw[if_pos h]
      · rw[if_neg h,if_pos (c1.resolve_left h)]
     by_cases hl:r.length=1
     · rw[decide_eq_true (show V.int ((V.str w'::xr).length:Int)=V.int 2 by rw[Aw,lr,hl];rfl)];obtain⟨d1,rfl⟩:=K6 hl;obtain⟨x1,rfl,r1⟩:=rr0.one;exact EL ⟨_,rfl,a,_,1,_,rfl,rfl,SqT.of ha0,rfl,x1,d1,rfl,r1,qf _ ef⟩
     · rw[decide_eq_false (show ¬V.int ((V.str w'::xr).length:Int)=V.int 2 from λz=>hl (by injection z with z;rw[Aw] at z;omega))]
       refine EK (qf _ (ef.trans ?_) _ (Same.refl _))
       match r,hl with
       | [],_=>rfl
       | [_],h=>exact absurd rfl h
       | _::_::_,_=>rfl
    | false=>
     rw[Bool.or_eq_false_iff,decide_eq_false_iff_not,decide_eq_false_iff_not] at c1;refine EK ⟨_,rfl,rfl,_,rfl,?_⟩;rw[Io];by_cases c2:w'="news"
     · rw[decide_eq_true c2];have ef:FQ w' r=GI r:=by unfold FQ;rw[if_neg c1.1,if_neg c1.2,if_pos c2]
       refine EL ⟨_,rfl,_,rfl,a,_,rfl,ha0,λp H1 s1 e1=>?_⟩;rw[LV] at e1;exact⟨.ref p,r,rfl,GR e1 (rr0.same s1) (by rw[Aw] at h9;show xr.length≤900;omega),trivial,λH2 s2=>qf _ ef _ (s1.trans s2)⟩
     rw[decide_eq_false c2];refine EK ?_;refine Q4 rfl ?_;have len53:∀(n:Int)(R:Bool→Hp→Prop),n=(if w'="here" then 3 else 5)→(∀H',Same H0 H'→R (!decide (V.int ((V.str w'::xr).length:Int)=V.int n)) H')→IE (Hf Ls (JU (λxs H Q=>∃p ys,xs=[V.ref p]∧(SqL K H p ys∨SqT K H p ys)∧Q (V.int ys.length) H) (GK (F6 0) Go)) (Hf (Ke K) (G9 (GK (tC (V.int 5)) (GK (tC (V.int 3)) Go))) (JU (λxs H Q=>(∃i,xs=[V.int i]∧Q (V.int i) H)∨∃k,xs=[V.bl k]∧Q (V.int (if k=true then 1 else 0)) H) (GK (Hf Lu (F6 1) (tC (V.str "here"))) Go)))) [some (.ref a),some (.str w')] H0 R:=by
      intro n R en k;refine⟨_,rfl,a,_,rfl,.inr (SqT.of ha0),G6,λpl hpl=>?_⟩;have s1:=EW hpl (.lst [V.int 5,V.int 3]);refine⟨_,rfl,rfl,.inr ⟨_,rfl,?_⟩⟩;rw[Io];by_cases h:w'="here"
      · rw[if_pos h] at en;subst en;rw[decide_eq_true h];exact⟨pl,_,_,_,rfl,rfl,SqL.of EU,rfl,rfl,_,rfl,k _ s1⟩
      · rw[if_neg h] at en;subst en;rw[decide_eq_false h];exact⟨pl,_,_,_,rfl,rfl,SqL.of EU,rfl,rfl,_,rfl,k _ s1⟩
     by_cases c3:w'="here"
     · rw[decide_eq_true c3];have ef:FQ w' r=GY r:=by unfold FQ;rw[if_neg c1.1,if_neg c1.2,if_neg c2,if_pos c3]
       refine EK (len53 3 _ (by rw[if_pos c3]) λH1 s1=>?_);by_cases hl:r.length=2
       · rw[decide_eq_true (show V.int ((V.str w'::xr).length:Int)=V.int 3 by rw[Aw,lr,hl];rfl)];refine EK ?_;obtain⟨d1,d2,rfl⟩:=JI hl;obtain⟨x1,x2,rfl,r1,r2⟩:=rr0.two;have eh:GY [d1,d2]=(FK d1 && F9 d2):=rfl;refine⟨_,rfl,a,_,1,_,rfl,rfl,SqT.of (s1 _ _ ha0),rfl,x1,d1,rfl,r1.same s1,λH2 s2=>⟨_,rfl,?_⟩⟩;have t2:=s1.trans s2;cases hf:FK d1 with
         | false=>exact EL (qf _ (by rw[ef,eh,hf];rfl) _ t2)
         | true=>
          refine EK ⟨_,rfl,a,_,2,_,rfl,rfl,SqT.of (t2 _ _ ha0),rfl,x2,d2,rfl,r2.same t2,λH3 s3=>⟨_,rfl,?_⟩⟩;have t3:=t2.trans s3;cases hw:F9 d2 with
          | false=>exact EL (qf _ (by rw[ef,eh,hf,hw];rfl) _ t3)
          | true=> refine EK ⟨_,rfl,rfl,_,rfl,?_⟩;rw[Io,decide_eq_true c3];exact EL (qf _ (by rw[ef,eh,hf,hw];rfl) _ t3)
       · rw[decide_eq_false (show ¬V.int ((V.str w'::xr).length:Int)=V.int 3 from λz=>hl (by injection z with z;rw[Aw] at z;omega))]
         refine EL (qf _ (ef.trans ?_) _ s1)
         match r,hl with
         | [],_=>rfl
         | [_],_=>rfl
         | [_,_],h=>exact absurd rfl h
         | _::_::_::_,_=>rfl
     rw[decide_eq_false c3];by_cases c4:w'="kept"
     · rw[decide_eq_true c4];have ef:FQ w' r=HD r:=by unfold FQ;rw[if_neg c1.1,if_neg c1.2,if_neg c2,if_neg c3,if_pos c4]
       refine EK (len53 5 _ (by rw[if_neg c3]) λH1 s1=>?_);by_cases hl:r.length=4
       · rw[decide_eq_true (show V.int ((V.str w'::xr).length:Int)=V.int 5 by rw[Aw,lr,hl];rfl)];refine EK ?_;obtain⟨d1,d2,d3,d4,rfl⟩:=Oa hl;obtain⟨x1,x2,x3,x4,rfl,r1,r2,r3,r4⟩:=rr0.four;have eh:HD [d1,d2,d3,d4]=(FK d1 && F9 d2 && (GS d3 && GA d4)):=rfl;refine⟨_,rfl,a,_,1,_,rfl,rfl,SqT.of (s1 _ _ ha0),rfl,x1,d1,rfl,r1.same s1,λH2 s2=>⟨_,rfl,?_⟩⟩;have t2:=s1.trans s2;cases hf:FK d1 with
         | false=>exact EL (qf _ (by rw[ef,eh,hf];rfl) _ t2)
         | true=>
          refine EK ⟨_,rfl,a,_,2,_,rfl,rfl,SqT.of (t2 _ _ ha0),rfl,x2,d2,rfl,r2.same t2,λH3 s3=>⟨_,rfl,?_⟩⟩;have t3:=t2.trans s3;cases hw:F9 d2 with
          | false=>exact EL (qf _ (by rw[ef,eh,hf,hw];rfl) _ t3)
          | true=> refine EK ⟨_,rfl,rfl,_,rfl,?_⟩;rw[Io,decide_eq_false c3];exact EK ⟨_,rfl,a,_,3,_,rfl,rfl,SqT.of (t3 _ _ ha0),rfl,_,rfl,a,_,4,_,rfl,rfl,SqT.of (t3 _ _ ha0),rfl,x3,x4,d3,d4,rfl,r3.same t3,r4.same t3,λH4 s4=>qf _ (by rw[ef,eh,hf,hw];rfl) _ (t3.trans s4)⟩
       · rw[decide_eq_false (show ¬V.int ((V.str w'::xr).length:Int)=V.int 5 from λz=>hl (by injection z with z;rw[Aw] at z;omega))]
         refine EL (qf _ (ef.trans ?_) _ s1)
         match r,hl with
         | [],_=>rfl
         | [_],_=>rfl
         | [_,_],_=>rfl
         | [_,_,_],_=>rfl
         | [_,_,_,_],h=>exact absurd rfl h
         | _::_::_::_::_::_,_=>rfl
     · rw[decide_eq_false c4];refine EL (qf _ ?_ _ (Same.refl _));unfold FQ;rw[if_neg c1.1,if_neg c1.2,if_neg c2,if_neg c3,if_neg c4]
 | _=>exact⟨_,rfl,_,_,"tuple",false,rfl,hd.ty,rfl,_,rfl,EL (q _ (Same.refl _))⟩
theorem Tg(F:Fun K "_law_right" "_law_right" Mi f fd)  :FnOk P w K mg base Fe 1 f fd ["found","due"] (Os):=by
 refine F.ok Tn (λvs H Q E h=>?_) (λcdv A outer s H vs Q E hr h=>?_)
 · obtain⟨x,y,rfl,q⟩:=h;rfl
 obtain⟨x,y,rfl,q⟩:=h;refine⟨_,(ES (EV (Ge (Fb (FD (n:="")) rfl B.isinstance_ FE (EJ (pv 0) (EJ (FG (v:= .ty "bool") rfl B.bool_ LU rfl) EM))) (Gr (Gw Gb (pv 0) (pv 1) (Fd _)))))),?_⟩;refine⟨_,rfl,_,"bool","bool",true,rfl,.bl x,rfl,_,rfl,EL ⟨_,rfl,_,rfl,rfl,?_⟩⟩;have:decide (V.bl x=V.bl y)=(x==y):=by cases x<;>cases y<;>rfl
 rw[this];exact q _ (Same.refl _)
theorem Qp(F:Fun K "law" "law" IC f fd)(ED:Γ21 P w K mg base)(EE:Γ23 P w K mg base)(EF:Γ42 P w K mg base)(EG:Γ30 P w K mg base)(Er:Γ22 P w K mg base)(Ei:Γ9 P w K mg base)(E5:Γ33 P w K mg base)(EH:Γ41 P w K mg base)(EI:Γ20 P w K mg base)(Ey:Γ31 P w K mg base)(E6:Γ35 P w K mg base):FnOk P w K mg base Fe 12 f fd ["script"] (Kz K):=by
 refine F.ok DU (λvs H Q E h=>?_) (λcdv A outer s H vs Q E hr h=>?_)
 · obtain⟨a,ns,rfl,hS,h63,q⟩:=h;rfl
 obtain⟨a,ns,rfl,hS,h63,q⟩:=h;refine⟨_,(EQ (Ff (i:=1) DU.nd rfl (Or.inl rfl) (ET ED (hr.mono (by decide)) rfl (EJ (pv 0) EM)))
  (EQ (Ff (i:=2) DU.nd rfl (Or.inl rfl) (Fc FU (ET EE (hr.mono (by decide)) rfl (EJ (pv 1) (EJ EN EM))) EN (λ_ _=>rfl)))
  (EQ (Ff (i:=3) DU.nd rfl (Or.inl rfl) (Fb Tb rfl B.sorted_ Rw (EJ (ET EE (hr.mono (by decide)) rfl (EJ (pv 1) (EJ EN EM))) EM)))
  (EQ (Fj (Fp (Fm (ET EF (hr.mono (by decide)) rfl (EJ (ET Ei (hr.mono (by decide)) rfl (EJ (pv 2) EM)) (EJ Fv EM))))) (ES (EV Fv)) Fi)
  (EQ (GL AI rfl (Ip rfl B.range_ (EJ EN EM)) (Fw (i:=4) DU.nd rfl (Or.inl rfl)) (EQ (Ff (i:=5) DU.nd rfl (Or.inl rfl) (ET EG (hr.mono (by decide)) rfl (EJ (pv 1) (EJ (pv 4) (EJ (pv 2) (EJ (pv 3) EM))))))
  (EQ (Fj (Fp (Fm (ET EF (hr.mono (by decide)) rfl (EJ (ET EI (hr.mono (by decide)) rfl (EJ (pv 5) EM)) (EJ Fv EM))))) (ES (EV Fv)) Fi)
  (ES (GL AI rfl (Ip rfl B.range_ (EJ EN EM)) (Fw (i:=6) DU.nd rfl (Or.inl rfl)) (EQ (Ff (i:=7) DU.nd rfl (Or.inl rfl) (ET E5 (hr.mono (by decide)) rfl (EJ (pv 1) (EJ (pv 5) (EJ EN EM)))))
  (EQ (Ff (i:=8) DU.nd rfl (Or.inl rfl) (ET EH (hr.mono (by decide)) rfl (EJ (pv 7) EM)))
  (ES (Fj (PW.pt (FJ (Fp (Fm (ET EF (hr.mono (by decide)) rfl (EJ (ET EI (hr.mono (by decide)) rfl (EJ (pv 7) EM)) (EJ (pv 8) EM))))) (Gf (Fp (Fm (ET EF (hr.mono (by decide)) rfl (EJ (ET EI (hr.mono (by decide)) rfl (EJ (pv 7) EM)) (EJ (pv 8) EM)))))))) (ES (EV Fv)) Fi)))))))))
  (EQ (GL AI rfl (Ip rfl B.range_ (EJ EN EM)) (Fw (i:=6) DU.nd rfl (Or.inl rfl)) (EQ (Ff (i:=9) DU.nd rfl (Or.inl rfl) (ET Er (hr.mono (by decide)) rfl (EJ (pv 1) (EJ (EX Gd (Fb Lf rfl B.len_ FP (EJ (pv 2) EM)) EN) EM))))
  (EQ (Ff (i:=10) DU.nd rfl (Or.inl rfl) (Fc LB Gm (ET Er (hr.mono (by decide)) rfl (EJ (pv 1) (EJ EN EM))) (λ_ _=>rfl)))
  (EQ (Ff (i:=11) DU.nd rfl (Or.inl rfl) (Gk (EJ (EX Iq (EX Iq (FO IK (pv 2) FX (FL (pv 9))) (pv 10)) (FO IK (pv 2) (FL (pv 9)) FX)) (EJ (EX Iq (FO IK (pv 2) FX (FL (pv 9))) (FO IK (pv 2) (FL (EX Gd (pv 9) EN)) FX)) EM))))
  (EQ (LN (K5 Cg Cc Cd KU (pv 11) (EJ (EX Iq (EX Iq (FO IK (pv 2) FX (FL (pv 9))) (pv 10)) (FO IK (pv 2) (FL (EX Gd (pv 9) EN)) FX)) EM)))
  (ES (GL AI rfl (KI (EX K7 (pv 11) (Gk (EJ (ET Ey (hr.mono (by decide)) rfl (EJ (pv 1) EM)) (EJ (ET E5 (hr.mono (by decide)) rfl (EJ (pv 1) (EJ (FW (EJ (pv 2) EM)) (EJ EN EM)))) EM))))) (Fw (i:=7) DU.nd rfl (Or.inl rfl)) (ES (Fj (Fp (Fm (ET EF (hr.mono (by decide)) rfl (EJ (ET Ei (hr.mono (by decide)) rfl (EJ (pv 7) EM)) (EJ (ET E6 (hr.mono (by decide)) rfl (EJ (pv 7) EM)) EM))))) (ES (EV Fv)) Fi)))))))))
  (ES (EV Fv)))))))),?_⟩
 refine⟨_,rfl,a,ns,rfl,hS,h63,λb l H1 B1 S1 nb=>?_⟩;refine⟨_,rfl,b,l,_,1,rfl,B1,by decide,by decide,by decide,λr0 ts H2 n2 e2 lt ft nd B2 S2=>?_⟩;obtain⟨x,rfl⟩:=K6 lt;have ok:=ft x (by simp);have lx:=ok.eight;refine⟨r0,_,_,_,rfl,rfl,SqL.of e2,rfl,?_⟩;refine⟨_,rfl,b,l,_,3,rfl,B2,by decide,by decide,by decide,λr3 ts3 H3 n3 e3 lt3 ft3 nd3 B3 S3=>⟨r3,ts3,rfl,SqL.of e3,by omega,λfl ms pm so hfl=>?_⟩⟩;have s4:=EW hfl (.lst (ms.map V.str));have B4:=B3.same s4;have Fs4:FldsAt (EO H3 fl (.lst (ms.map V.str))) b fl ms:=⟨EU,(B3.free hfl).1,by rw[pm.length_eq];omega,λf hf=>ft3 f (pm.subset hf),RX so (pm.nodup_iff.mpr nd3)⟩;generalize EO H3 fl (.lst (ms.map V.str))=H4 at*;clear e3 e2 S3 S2 S1 B1 B2 B3 s4 hfl n3 n2 lt3 ft3 nd3 pm so hS;refine⟨_,rfl,.str x,.str x,rfl,JN ok,λH5 s5=>⟨_,true,rfl,λH6 s6=>⟨_,rfl,?_⟩⟩⟩;rw[show(FK (.str x)==true)=true from by show(FT x==true)=true;rw[HJ ok];rfl]
 refine EK ?_;refine MZ ?_;dsimp only;have t6:=s5.trans s6;have B6:=B4.same t6;have Fs6:=Fs4.sameP t6.sameB;refine Mb (λσ' H'=>∃y4 y5 y6 y7 y8,σ'=[some (.ref a),some (.ref b),some (.str x),some (.ref fl),y4,y5,y6,y7,y8,none,none,none]∧Pile H' b l 200000) (λZ hZ=>?_) ?_
 · refine⟨_,rfl,by decide,by decide,IN (lo:=0) (n:=5) (λi σ H'=>(∃y4 y5 y6 y7 y8,σ=[some (.ref a),some (.ref b),some (.str x),some (.ref fl),y4,y5,y6,y7,y8,none,none,none])∧FldsAt H' b fl ms∧Pile H' b l (1000+20000*(i:Int))) ⟨⟨none,none,none,none,none,rfl⟩,Fs6,B6.mono (by decide)⟩ ?_ ?_⟩
   · rintro i σ H7 hi ⟨⟨y4,y5,y6,y7,y8,rfl⟩,Fs7,B7⟩;refine⟨_,rfl,_,rfl,_,rfl,_,rfl,b,l,fl,_,_,x,ms,rfl,B7,by omega,by omega,by omega,ok,Fs7,λv d H8 rd gd ld B8 S8=>?_⟩;have Fs8:=Fs7.sameP S8;refine⟨_,rfl,v,d,rfl,IJ rd,λH9 s9=>⟨_,true,rfl,λH10 s10=>⟨_,rfl,?_⟩⟩⟩;rw[gd];refine EK ?_;have t10:=s9.trans s10;refine⟨_,rfl,by decide,by decide,IN (lo:=0) (n:=4) (λj σ H'=>(∃y6 y7 y8,σ=[some (.ref a),some (.ref b),some (.str x),some (.ref fl),some (.int (0+(i:Int))),some v,y6,y7,y8,none,none,none])∧FldsAt H' b fl ms∧RepY (hp b H') d v∧Pile H' b l (7000+20000*(i:Int)+100*(j:Int))) ⟨⟨y6,y7,y8,rfl⟩,Fs8.sameP t10.sameB,Gz rd t10.sameB,(B8.same t10).mono (by omega)⟩ ?_ ?_⟩
     · rintro j σ H11 hj ⟨⟨y6,y7,y8,rfl⟩,Fs11,rd11,B11⟩;refine⟨_,rfl,_,rfl,5,by decide,b,l,_,v,d,rfl,B11,by omega,rd11,ld,λv' d' H12 r12 B12 S12=>?_⟩;refine⟨_,rfl,v',d',rfl,IJ r12,λH13 s13=>?_⟩;refine⟨_,rfl,v',d',rfl,IJ (Gz r12 s13.sameB),λH14 s14=>⟨_,rfl,_,_,rfl,λH15 s15=>⟨_,rfl,?_⟩⟩⟩;rw[beq_self_eq_true];have t15:=s13.trans (s14.trans s15);refine EK ⟨_,rfl,v',d',rfl,IJ (Gz r12 t15.sameB),λH16 s16=>⟨_,rfl,_,_,rfl,λH17 s17=>⟨_,rfl,?_⟩⟩⟩;rw[beq_self_eq_true];have t17:=t15.trans (s16.trans s17);have S17:Fh b H11 H17:=S12.trans t17.sameB;exact EK ⟨⟨_,_,_,rfl⟩,Fs11.sameP S17,Gz rd11 S17,(B12.same t17).mono (by omega)⟩
     · rintro σ H11 ⟨⟨y6,y7,y8,rfl⟩,Fs11,rd11,B11⟩;exact⟨⟨_,_,_,_,_,rfl⟩,Fs11,B11.mono (by omega)⟩
   · rintro σ H7 ⟨⟨y4,y5,y6,y7,y8,rfl⟩,Fs7,B7⟩;exact hZ _ _ ⟨_,_,_,_,_,rfl,B7.mono (by decide)⟩
 rintro σ' H7 ⟨y4,y5,y6,y7,y8,rfl,B7⟩;refine⟨_,rfl,by decide,by decide,IN (lo:=0) (n:=6) (λi σ H'=>(∃y6 y7 y9 y10 y11,σ=[some (.ref a),some (.ref b),some (.str x),some (.ref fl),y4,y5,y6,y7,y8,y9,y10,y11])∧Pile H' b l (200000+1000*(i:Int))) ⟨⟨_,_,_,_,_,rfl⟩,B7.mono (by decide)⟩ ?_ ?_⟩
 · rintro i σ H8 hi ⟨⟨y6,y7,y9,y10,y11,rfl⟩,B8⟩;have lI:(x.length:Int)≤8:=by omega
   refine⟨_,rfl,_,rfl,x,rfl,FH (by omega),_,_,rfl,rfl,b,l,_,_,rfl,B8,by omega,(by show 0<(x.length:Int)+1;omega),(J0 (n:=(x.length:Int)+1) (by omega)),λat' H9 Ga at1 B9 S9=>?_⟩;refine⟨_,rfl,b,l,_,13,rfl,B9,by omega,by decide,by decide,λk H10 k0 k1 B10 S10=>?_⟩;obtain⟨c,hc⟩:=P_ (l:=(" !AZ09_-~az`{":Str).cps.toList) k0 (by rw[show(" !AZ09_-~az`{":Str).cps.toList.length=13 by decide+kernel];exact k1);refine⟨_,_,c,rfl,rfl,(by decide+kernel),hc,?_⟩;have l1:((⟨#[c]⟩:Str)).length=1:=rfl;refine⟨_,rfl,_,rfl,_,rfl,x,rfl,by omega,λz1 z1l _=>?_⟩;refine⟨_,rfl,_,_,rfl,rfl,FH (by rw[l1];omega),_,rfl,_,rfl,_,rfl,x,rfl,by omega,λz2 z2l _=>⟨_,_,rfl,rfl,FH (by rw[GP,l1];omega),?_⟩⟩;refine⟨_,rfl,_,rfl,_,rfl,x,rfl,by omega,λz3 z3l _=>?_⟩;refine⟨_,rfl,_,rfl,_,_,rfl,rfl,_,rfl,x,rfl,by omega,λz4 z4l _=>⟨_,_,rfl,rfl,FH (by omega),G6,λp hp'=>?_⟩⟩;have w1:(z1++(⟨#[c]⟩:Str)++z2).length≤20:=by rw[GP,GP,l1];omega
   have w2:(z3++z4).length≤20:=by rw[GP];omega
   generalize z1++(⟨#[c]⟩:Str)++z2=u1 at*;generalize z3++z4=u2 at*;have s11:=EW hp' (.lst [V.str u1,V.str u2]);have c11:(EO H10 p (.lst [V.str u1,V.str u2])) p=some (.lst [V.str u1,V.str u2]):=EU;have B11:=B10.same s11;obtain⟨pb,pl⟩:=B10.free hp';generalize EO H10 p (.lst [V.str u1,V.str u2])=H11 at*;refine⟨_,rfl,.inl ⟨rfl,_,SqL.of c11⟩,_,rfl,_,rfl,_,rfl,x,rfl,by omega,λz5 z5l _=>?_⟩;refine⟨_,rfl,_,_,rfl,rfl,FH (by rw[l1];omega),_,rfl,_,rfl,_,_,rfl,rfl,_,rfl,x,rfl,by omega,λz6 z6l _=>⟨_,_,rfl,rfl,FH (by rw[GP,l1];omega),?_⟩⟩;have w3:(z5++(⟨#[c]⟩:Str)++z6).length≤20:=by rw[GP,GP,l1];omega
   generalize z5++(⟨#[c]⟩:Str)++z6=u3 at*;refine⟨p,_,_,rfl,rfl,c11,G2 (by simp),?_⟩;have c12:(EO H11 p (.lst ([V.str u1,V.str u2]++[V.str u3]))) p=some (.lst [V.str u1,V.str u2,V.str u3]):=EU;have B12:Pile (EO H11 p (.lst ([V.str u1,V.str u2]++[V.str u3]))) b l (200000+1000*(i:Int)+2):=(B11.off pb pl).mono (by omega);generalize EO H11 p (.lst ([V.str u1,V.str u2]++[V.str u3]))=H12 at*;refine⟨_,rfl,_,rfl,b,l,_,rfl,B12,by omega,λvo dO H13 rO B13 S13=>?_⟩;have c13:=S13 _ _ c12 pb pb;refine⟨_,rfl,_,rfl,IB,λpn hpn=>?_⟩;have s14:=EW hpn (.tup [V.str x]);have rN:=Ii B13 hpn (.cons (JN ok) .nil) (by show 1≤900;decide);have B14:=B13.same s14;have rO14:=Gz rO (s14.sameB (b:=b) (g:=b));have c14:=s14 _ _ c13;generalize EO H13 pn (.tup [V.str x])=H14 at*;refine⟨1,by decide,b,l,_,.ref pn,.tup [.str x],rfl,B14,by omega,rN,GG (by show 1≤100;decide) (λe he=>by rw[Ao.mp he,EZ];exact HJ ok),λvs ds H15 rS B15 S15=>?_⟩;have rO15:=Gz rO14 S15;have c15:=S15 _ _ c14 pb pb;refine⟨G6,λp2 hp2=>?_⟩;have s16:=EW hp2 (.lst [vo,vs]);have c16:(EO H15 p2 (.lst [vo,vs])) p2=some (.lst [vo,vs]):=EU;have B16:=B15.same s16;have rO16:=Gz rO15 (s16.sameB (b:=b) (g:=b));have rS16:=Gz rS (s16.sameB (b:=b) (g:=b));have d16:=s16 _ _ c15;generalize EO H15 p2 (.lst [vo,vs])=H16 at*;refine⟨p,p2,_,_,rfl,rfl,d16,c16,Kx,λp3 hp3=>?_⟩;have s17:=EW hp3 (.lst [V.str u1,V.str u2,V.str u3,vo,vs]);have c17:(EO H16 p3 (.lst ([V.str u1,V.str u2,V.str u3]++[vo,vs]))) p3=some (.lst [V.str u1,V.str u2,V.str u3,vo,vs]):=EU;have B17:Pile (EO H16 p3 (.lst ([V.str u1,V.str u2,V.str u3]++[vo,vs]))) b l _:=B16.same s17;have r17:RepYs (EO H16 p3 (.lst ([V.str u1,V.str u2,V.str u3]++[vo,vs]))) [.str u1,.str u2,.str u3,dO,ds] [V.str u1,V.str u2,V.str u3,vo,vs]:= .cons (JL (by omega)) (.cons (JL (by omega)) (.cons (JL (by omega)) (.cons (RepY.same s17 _ (IJ rO16)) (.cons (RepY.same s17 _ (IJ rS16)) .nil))));generalize EO H16 p3 (.lst ([V.str u1,V.str u2,V.str u3]++[vo,vs]))=H17 at*;refine⟨p3,rfl,⟨_,SqL.of c17⟩,LX (K:=K) (a:=p3) (xs:=[V.str u1,V.str u2,V.str u3,vo,vs]) (λj σ H'=>(∃y6 y7 y9 y10 y11,σ=[some (.ref a),some (.ref b),some (.str x),some (.ref fl),y4,y5,y6,y7,y8,y9,y10,y11])∧Same H17 H') ⟨⟨_,_,_,_,_,rfl⟩,Same.refl _⟩ (λj σ H' _ ⟨_,s⟩=>s.seq (SqL.of c17)) ?_ ?_⟩
   · rintro j y σ H18 hy ⟨⟨y6,y7,y9,y10,y11,rfl⟩,s18⟩;obtain⟨dy,ey,ry⟩:=r17.get hy;refine⟨_,rfl,y,dy,rfl,RepY.same s18 _ ry,λH19 s19=>⟨_,rfl,y,dy,rfl,RepY.same (s18.trans s19) _ ry,λH20 s20=>⟨_,_,rfl,λH21 s21=>⟨_,rfl,?_⟩⟩⟩⟩;rw[beq_self_eq_true];exact EK ⟨⟨_,_,_,_,_,rfl⟩,s18.trans (s19.trans (s20.trans s21))⟩
   · rintro σ H18 ⟨⟨y6,y7,y9,y10,y11,rfl⟩,s18⟩;exact⟨⟨_,_,_,_,_,rfl⟩,(B17.same s18).mono (by omega)⟩
 · rintro σ H8 ⟨_,B8⟩;exact q _
end
open PySem.W (nsIn mg_of mg_none_of fnOf keepIn codeIn)
abbrev dF(n:Str)(s:Stmt):=fnOf n n (Hv s) (Gv s) (Fa s) .none
theorem FI{st:Stmt}{f:Addr}{fd:AJ}{p0:Str}(F:Fun K x x st f fd)(h:∀(kV doc pm:Value)(an:Option Addr)(cdv ct u0:Value),bindArgs (fnOf x x (Hv st) (Gv st) (Fa st) .none kV doc pm an cdv ct) ⟨[u0],[]⟩=pure [(p0,u0)]:=by intros;rfl):Binds K fd [p0] []:=
 F.binds λkV doc pm an cdv ct=>lS λu0=>l0 (h kV doc pm an cdv ct u0)
theorem Hj{st:Stmt}{f:Addr}{fd:AJ}{p0 p1:Str}(F:Fun K x x st f fd)(h:∀(kV doc pm:Value)(an:Option Addr)(cdv ct u0 u1:Value),bindArgs (fnOf x x (Hv st) (Gv st) (Fa st) .none kV doc pm an cdv ct) ⟨[u0,u1],[]⟩=pure [(p0,u0),(p1,u1)]:=by intros;rfl):Binds K fd [p0,p1] []:=
 F.binds λkV doc pm an cdv ct=>lS λu0=>lS λu1=>l0 (h kV doc pm an cdv ct u0 u1)
theorem Ub{st:Stmt}{f:Addr}{fd:AJ}{p0 p1 p2:Str}(F:Fun K x x st f fd)(h:∀(kV doc pm:Value)(an:Option Addr)(cdv ct u0 u1 u2:Value),bindArgs (fnOf x x (Hv st) (Gv st) (Fa st) .none kV doc pm an cdv ct) ⟨[u0,u1,u2],[]⟩=pure [(p0,u0),(p1,u1),(p2,u2)]:=by intros;rfl):Binds K fd [p0,p1,p2] []:=
 F.binds λkV doc pm an cdv ct=>lS λu0=>lS λu1=>lS λu2=>l0 (h kV doc pm an cdv ct u0 u1 u2)
theorem Ua{st:Stmt}{f:Addr}{fd:AJ}{p0 p1 p2 p3:Str}(F:Fun K x x st f fd)(h:∀(kV doc pm:Value)(an:Option Addr)(cdv ct u0 u1 u2 u3:Value),bindArgs (fnOf x x (Hv st) (Gv st) (Fa st) .none kV doc pm an cdv ct) ⟨[u0,u1,u2,u3],[]⟩=pure [(p0,u0),(p1,u1),(p2,u2),(p3,u3)]:=by intros;rfl):Binds K fd [p0,p1,p2,p3] []:=
 F.binds λkV doc pm an cdv ct=>lS λu0=>lS λu1=>lS λu2=>lS λu3=>l0 (h kV doc pm an cdv ct u0 u1 u2 u3)
structure KF(K:Ad)(x:Str)(st:Stmt)(f:Addr)(fd:AJ):Prop where
 a:nsIn K Al x=some (some (.ref f))
 F:Fun K x x st f fd
theorem all_mk{l:Dj}{w:World}{mg:Str→Option Value}{fa f1 f2 f3 f4 f5 f6 f7 f8 f9 f10 f11 f12 f13 f14 f15 f16 f17 f18 f19 f20 f21 f22 f23 f24 f25 f26 f27 f28 f29 f30 f31 f32 f33 f34 f35 f36 f37 f38 f39 f40 f41 f42 f43 f44:Addr}{g1 g2 g3 g4 g5 g6 g7 g8 g9 g10 g11 g12 g13 g14 g15 g16 g17 g18 g19 g20 g21 g22 g23 g24 g25 g26 g27 g28 g29 g30 g31 g32 g33 g34 g35 g36 g37 g38 g39 g40 g41 g42 g43 g44:AJ}(X:K.In h)(G:h.Ns Al mg)(hfa:mg "law"=some (.ref fa))
 (h1:KF K "is_whole" Mo f1 g1)
 (h2:KF K "is_end" Ma f2 g2)
 (h3:KF K "is_span" Mg f3 g3)
 (h4:KF K "is_field" KS f4 g4)
 (h5:KF K "is_wish_part" Mz f5 g5)
 (h6:KF K "is_piece_part" M6 f6 g6)
 (h7:KF K "fields_ascend" Ld f7 g7)
 (h8:KF K "is_wish" KZ f8 g8)
 (h9:KF K "is_piece" KT f9 g9)
 (h10:KF K "is_name" Mf f10 g10)
 (h11:KF K "is_from_nought" Mu f11 g11)
 (h12:KF K "is_way" KN f12 g12)
 (h13:KF K "is_mark" KY f13 g13)
 (h14:KF K "are_marks" JR f14 g14)
 (h15:KF K "is_numbered_piece" Mw f15 g15)
 (h16:KF K "are_numbered_pieces" Lj f16 g16)
 (h17:KF K "behind_want" MC f17 g17)
 (h18:KF K "behind_news" MB f18 g18)
 (h19:KF K "behind_here" M9 f19 g19)
 (h20:KF K "behind_kept" MA f20 g20)
 (h21:KF K "is_letter" Li f21 g21)
 (h22:KF K "_law_pile" Mp f22 g22)
 (h23:KF K "_law_take" Mr f23 g23)
 (h24:KF K "_law_texts" Le f24 g24)
 (h25:KF K "_law_number" Mj f25 g25)
 (h26:KF K "_law_wish" Ms f26 g26)
 (h27:KF K "_law_piece" Mh f27 g27)
 (h28:KF K "_law_rising" Mk f28 g28)
 (h29:KF K "_law_size" Mq f29 g29)
 (h30:KF K "_law_count" Mt f30 g30)
 (h31:KF K "_law_letter" Lh f31 g31)
 (h32:KF K "_law_odd" Hd f32 g32)
 (h33:KF K "_law_spoilt_end" Mv f33 g33)
 (h34:KF K "_law_spoilt" Ml f34 g34)
 (h35:KF K "_law_is_whole" M0 f35 g35)
 (h36:KF K "_law_is_text" Lc f36 g36)
 (h37:KF K "_law_is_rows" Mx f37 g37)
 (h38:KF K "_law_is_wish" My f38 g38)
 (h39:KF K "_law_is_news" Lb f39 g39)
 (h40:KF K "_law_is_way" Lg f40 g40)
 (h41:KF K "_law_is_kept" La f41 g41)
 (h42:KF K "_law_is_letter" M7 f42 g42)
 (h43:KF K "_law_right" Mi f43 g43)
 (h44:KF K "law" IC f44 g44)
 {tML':Tok} (eML':nsIn K Al "MOST_LETTERS"=some (some (.int 8 tML')))
 {aF fw fn fh fk:Addr} {esD:Array Cq} {nD:Nat}
 (y_D:C4 K Al "FORMS"=some (some (.ref aF)))
 (y_l:K.lookup aF=some ⟨.type "dict",none,.dict esD nD,#[]⟩)
 (y_m:(aF==BO)=false)
 (y_k:PySem.W.KeysLit w.params esD.toList)
 (y_e:Ents esD.toList [("want",.ref fw),("unwant",.ref fw),("news",.ref fn),("here",.ref fh),("kept",.ref fk)])
 (y_w:C4 K Al "behind_want"=some (some (.ref fw)))
 (y_n:C4 K Al "behind_news"=some (some (.ref fn)))
 (y_h:C4 K Al "behind_here"=some (some (.ref fh)))
 (y_fk:C4 K Al "behind_kept"=some (some (.ref fk)))
 (z_len:nsIn K Al "len"=some none)
 (z_range:nsIn K Al "range"=some none)
 (z_isinstance:nsIn K Al "isinstance"=some none)
 (z_int:nsIn K Al "int"=some none)
 (z_bool:nsIn K Al "bool"=some none)
 (z_tuple:nsIn K Al "tuple"=some none)
 (z_list:nsIn K Al "list"=some none)
 (z_max:nsIn K Al "max"=some none)
 (z_min:nsIn K Al "min"=some none)
 (z_all:nsIn K Al "all"=some none)
 (z_zip:nsIn K Al "zip"=some none)
 (z_str:nsIn K Al "str"=some none)
 (z_dict:nsIn K Al "dict"=some none)
 (z_sorted:nsIn K Al "sorted"=some none)
 (z_set:nsIn K Al "set"=some none)
 (z_any:nsIn K Al "any"=some none)
 (z_sum:nsIn K Al "sum"=some none)
 (z_enumerate:nsIn K Al "enumerate"=some none)
 (z_repr:nsIn K Al "repr"=some none)
 (z_ord:nsIn K Al "ord"=some none)
 (z_chr:nsIn K Al "chr"=some none)
 (z_abs:nsIn K Al "abs"=some none)
 (z_reversed:nsIn K Al "reversed"=some none)
 :∃fd:AJ,(∀(s:Shared)(v:Value),BindsTo s fd ⟨[v],[]⟩ [("script",v)])∧∀base:Heap,K.In base→base.Ns Al mg→FnOk l.prog w K mg base Fe 12 fa fd ["script"] (Kz K):=by
 have e:=hfa.symm.trans (BF X G h44.a);cases e;obtain⟨_,⟨⟨oc,od,kV,dc,pm,an,cd,ct,sl,rfl,l',c'⟩,k'⟩⟩:=h44;have B:Bl mg:=⟨mg_none_of X G z_len,mg_none_of X G z_range,mg_none_of X G z_isinstance,mg_none_of X G z_int,mg_none_of X G z_bool,mg_none_of X G z_tuple,mg_none_of X G z_list,mg_none_of X G z_max,mg_none_of X G z_min,mg_none_of X G z_all,mg_none_of X G z_zip,mg_none_of X G z_str,mg_none_of X G z_dict,mg_none_of X G z_sorted,mg_none_of X G z_set,mg_none_of X G z_any,mg_none_of X G z_sum,mg_none_of X G z_enumerate,mg_none_of X G z_repr,mg_none_of X G z_ord,mg_none_of X G z_chr,mg_none_of X G z_abs,mg_none_of X G z_reversed⟩;refine⟨BK "law" "law" (Hv IC) (Gv IC) (Fa IC) .none kV dc pm an cd ct,λs v=> .of_eq rfl,λbase _ _  =>?_⟩;have QML':=mg_of X G eML';have Fo:Forms K w mg aF fw fn fh fk:={
  m:=BF X G y_D
  d:=⟨y_m,_,_,y_l,y_k,y_e⟩
  mw:=BF X G y_w
  mn:=BF X G y_n
  mh:=BF X G y_h
  mq:=BF X G y_fk
 }
 have DV:Γ0 l.prog w K mg base:=⟨_,_,Sv B Fo Fo.m QML' h1.F,FI h1.F,h1.F.2,mg_of X G h1.a⟩;have DW:Γ1 l.prog w K mg base:=⟨_,_,Rf B Fo Fo.m QML' h2.F DV,FI h2.F,h2.F.2,mg_of X G h2.a⟩;have DZ:Γ2 l.prog w K mg base:=⟨_,_,RE B Fo Fo.m QML' h3.F DW,FI h3.F,h3.F.2,mg_of X G h3.a⟩;have DX:Γ3 l.prog w K mg base:=⟨_,_,Ss B Fo Fo.m QML' h4.F,FI h4.F,h4.F.2,mg_of X G h4.a⟩;have Ea:Γ4 l.prog w K mg base:=⟨_,_,Tr B Fo Fo.m QML' h5.F DX DZ,FI h5.F,h5.F.2,mg_of X G h5.a⟩;have Eb:Γ5 l.prog w K mg base:=⟨_,_,Tw B Fo Fo.m QML' h6.F DX DV,FI h6.F,h6.F.2,mg_of X G h6.a⟩;have D_:Γ6 l.prog w K mg base:=⟨_,_,Tv B Fo Fo.m QML' h7.F,FI h7.F,h7.F.2,mg_of X G h7.a⟩;have Eh:Γ7 l.prog w K mg base:=⟨_,_,RF B Fo Fo.m QML' h8.F D_ Ea,FI h8.F,h8.F.2,mg_of X G h8.a⟩;have Ef:Γ8 l.prog w K mg base:=⟨_,_,Su B Fo Fo.m QML' h9.F D_ Eb,FI h9.F,h9.F.2,mg_of X G h9.a⟩;have Ei:Γ9 l.prog w K mg base:=⟨_,_,RD B Fo Fo.m QML' h10.F DX,FI h10.F,h10.F.2,mg_of X G h10.a⟩;have Ec:Γ10 l.prog w K mg base:=⟨_,_,TM B Fo Fo.m QML' h11.F DV,FI h11.F,h11.F.2,mg_of X G h11.a⟩;have Ej:Γ11 l.prog w K mg base:=⟨_,_,Rg B Fo Fo.m QML' h12.F Ec,FI h12.F,h12.F.2,mg_of X G h12.a⟩;have Ed:Γ12 l.prog w K mg base:=⟨_,_,RC B Fo Fo.m QML' h13.F Ec,FI h13.F,h13.F.2,mg_of X G h13.a⟩;have El:Γ13 l.prog w K mg base:=⟨_,_,Tc B Fo Fo.m QML' h14.F Ed,FI h14.F,h14.F.2,mg_of X G h14.a⟩;have Eg:Γ14 l.prog w K mg base:=⟨_,_,TJ B Fo Fo.m QML' h15.F Ed Ef,FI h15.F,h15.F.2,mg_of X G h15.a⟩;have Em:Γ15 l.prog w K mg base:=⟨_,_,TL B Fo Fo.m QML' h16.F Eg,FI h16.F,h16.F.2,mg_of X G h16.a⟩;have En:Γ16 l.prog w K mg base:=⟨_,_,T2 B Fo Fo.m QML' h17.F Eh,FI h17.F,h17.F.2,mg_of X G h17.a⟩;have Eo:Γ17 l.prog w K mg base:=⟨_,_,T1 B Fo Fo.m QML' h18.F Eg,FI h18.F,h18.F.2,mg_of X G h18.a⟩;have Ek:Γ18 l.prog w K mg base:=⟨_,_,Tz B Fo Fo.m QML' h19.F Ei Ej,FI h19.F,h19.F.2,mg_of X G h19.a⟩;have Ep:Γ19 l.prog w K mg base:=⟨_,_,T0 B Fo Fo.m QML' h20.F Ek El Em,FI h20.F,h20.F.2,mg_of X G h20.a⟩;have EI:Γ20 l.prog w K mg base:=⟨_,_,Td B Fo Fo.m QML' h21.F En Eo Ek Ep,FI h21.F,h21.F.2,mg_of X G h21.a⟩;have ED:Γ21 l.prog w K mg base:=⟨_,_,Sw B Fo Fo.m QML' h22.F,FI h22.F,h22.F.2,mg_of X G h22.a⟩;have Er:Γ22 l.prog w K mg base:=⟨_,_,Sz B Fo Fo.m QML' h23.F,Hj h23.F,h23.F.2,mg_of X G h23.a⟩;have EE:Γ23 l.prog w K mg base:=⟨_,_,Th B Fo Fo.m QML' h24.F Er,Hj h24.F,h24.F.2,mg_of X G h24.a⟩;have Es:Γ24 l.prog w K mg base:=⟨_,_,SW B Fo Fo.m QML' h25.F Er,FI h25.F,h25.F.2,mg_of X G h25.a⟩;have Ev:Γ25 l.prog w K mg base:=⟨_,_,SA B Fo Fo.m QML' h26.F Er Es,Hj h26.F,h26.F.2,mg_of X G h26.a⟩;have Ex:Γ26 l.prog w K mg base:=⟨_,_,Tf B Fo Fo.m QML' h27.F Er Es,Hj h27.F,h27.F.2,mg_of X G h27.a⟩;have Et:Γ27 l.prog w K mg base:=⟨_,_,SX B Fo Fo.m QML' h28.F Er,Hj h28.F,h28.F.2,mg_of X G h28.a⟩;have Eu:Γ28 l.prog w K mg base:=⟨_,_,Sy B Fo Fo.m QML' h29.F Er,Hj h29.F,h29.F.2,mg_of X G h29.a⟩;have Ew:Γ29 l.prog w K mg base:=⟨_,_,Te B Fo Fo.m QML' h30.F Er,FI h30.F,h30.F.2,mg_of X G h30.a⟩;have EG:Γ30 l.prog w K mg base:=⟨_,_,SV B Fo Fo.m QML' h31.F Et Er Eu Ev Ew Ex,Ua h31.F,h31.F.2,mg_of X G h31.a⟩;have Ey:Γ31 l.prog w K mg base:=⟨_,_,RG B Fo Fo.m QML' h32.F Er,FI h32.F,h32.F.2,mg_of X G h32.a⟩;have Ez:Γ32 l.prog w K mg base:=⟨_,_,TN B Fo Fo.m QML' h33.F Er Ey,Hj h33.F,h33.F.2,mg_of X G h33.a⟩;have E5:Γ33 l.prog w K mg base:=⟨_,_,SY B Fo Fo.m QML' h34.F Ez Er (BF X G h34.a),Ub h34.F,h34.F.2,mg_of X G h34.a⟩;have E8:Γ34 l.prog w K mg base:=⟨_,_,Ts B Fo Fo.m QML' h35.F,Hj h35.F,h35.F.2,mg_of X G h35.a⟩;have E6:Γ35 l.prog w K mg base:=⟨_,_,T6 B Fo Fo.m QML' h36.F,FI h36.F,h36.F.2,mg_of X G h36.a⟩;have E7:Γ36 l.prog w K mg base:=⟨_,_,T5 B Fo Fo.m QML' h37.F E6,Hj h37.F,h37.F.2,mg_of X G h37.a⟩;have EB:Γ37 l.prog w K mg base:=⟨_,_,T7 B Fo Fo.m QML' h38.F E7 E8,FI h38.F,h38.F.2,mg_of X G h38.a⟩;have E9:Γ38 l.prog w K mg base:=⟨_,_,T4 B Fo Fo.m QML' h39.F E7 E8,FI h39.F,h39.F.2,mg_of X G h39.a⟩;have EC:Γ39 l.prog w K mg base:=⟨_,_,SU B Fo Fo.m QML' h40.F E8,FI h40.F,h40.F.2,mg_of X G h40.a⟩;have EA:Γ40 l.prog w K mg base:=⟨_,_,T3 B Fo Fo.m QML' h41.F E8 E9,Hj h41.F,h41.F.2,mg_of X G h41.a⟩;have EH:Γ41 l.prog w K mg base:=⟨_,_,Tx B Fo Fo.m QML' h42.F E9 EA EB E6 EC,FI h42.F,h42.F.2,mg_of X G h42.a⟩;have EF:Γ42 l.prog w K mg base:=⟨_,_,Tg B Fo Fo.m QML' h43.F,Hj h43.F,h43.F.2,mg_of X G h43.a⟩;exact Qp B Fo Fo.m QML' (fun_mk (st:=IC) l' c' k') ED EE EF EG Er Ei E5 EH EI Ey E6
theorem walk{l:Dj}{q:A_}{loose:List Str}{XP:(Str→Option Value)→Heap→Prop}{YP:World→Heap→Prop}{d:DefRec}{K:Params→Ad}(hn:l.most=some 63)(hdf:d.params.defaults=[])
 (hY:∀(w:World)(h:Heap),YP w h→(K w.params).In h)
 (F:∀(w:World)(mg:Str→Option Value)(fa:Addr)(h:Heap),(K w.params).In h→h.Ns Al mg→mg d.name=some (.ref fa)→
  ∃fd:AJ,(∀(s:Shared)(u:Value),BindsTo s fd ⟨[u],[]⟩ [("script",u)])∧∀base:Heap,(K w.params).In base→base.Ns Al mg→FnOk l.prog w (K w.params) mg base Fe 12 fa fd ["script"] (Kz (K w.params))):
 PySem.W.WalkO q loose XP YP l.row.toRowW d [] (λf vs=>PySem.call f vs):=
 L2.walk_of (n:=63) (k:=12) (x:="script") (CX:=λ_=>Fe) (sp:=λw=>Kz (K w.params)) hn (by decide) hdf ⟨rfl,by decide,by decide,rfl⟩ hY F (λ_ _ a ns hl _ hS=>⟨a,ns,rfl,hS,hl,λ_=>rfl⟩) λ_ _ _ _ _ z=>z
end K30
namespace PySem.W.Fast
theorem tw5911232524085025570:0=0:=rfl
theorem tw8757408177319405451:0=0:=rfl
theorem tw12291792525042987959:0=0:=rfl
theorem tw644263455346318490:0=0:=rfl
theorem tw14846168918025825853:0=0:=rfl
theorem tw2391556167297596070:0=0:=rfl
theorem tw14759333186116747328:0=0:=rfl
theorem tw196964166032530720:0=0:=rfl
theorem tw10261455570507116864:0=0:=rfl
theorem tw17212826665213451680:0=0:=rfl
theorem tw17982185411225423328:0=0:=rfl
theorem tw14643819928145984513:0=0:=rfl
theorem tw17404503515901020161:0=0:=rfl
theorem tw3544275869863993345:0=0:=rfl
theorem tw15930417678353937569:0=0:=rfl
theorem tw226195845054273761:0=0:=rfl
theorem tw13751437452045637889:0=0:=rfl
theorem tw9379667557257403777:0=0:=rfl
theorem tw8452463982742852033:0=0:=rfl
theorem tw16885436303116774881:0=0:=rfl
theorem tw8958170153808887297:0=0:=rfl
theorem tw9506358267029178017:0=0:=rfl
theorem tw5754582155022672609:0=0:=rfl
theorem tw6530266023115044673:0=0:=rfl
theorem tw6318558053887000385:0=0:=rfl
theorem tw10966596698727983202:0=0:=rfl
theorem tw14579211549257193794:0=0:=rfl
theorem tw15716883145282541571:0=0:=rfl
theorem tw4877137887189478755:0=0:=rfl
theorem tw5012674184455374307:0=0:=rfl
theorem tw7260171220109273731:0=0:=rfl
theorem tw8454481077924391587:0=0:=rfl
theorem tw17606859496807121603:0=0:=rfl
theorem tw16242042143218467908:0=0:=rfl
theorem tw18383226702893118596:0=0:=rfl
theorem tw17446872154142388548:0=0:=rfl
theorem tw18380661949277496740:0=0:=rfl
theorem tw4405058014850802180:0=0:=rfl
theorem tw6880389623991969348:0=0:=rfl
theorem tw9007187456918335140:0=0:=rfl
theorem tw13105069908280091460:0=0:=rfl
theorem tw1290436756381626212:0=0:=rfl
theorem tw10190967222381100932:0=0:=rfl
theorem tw7166511299201174500:0=0:=rfl
theorem tw17982510292273576197:0=0:=rfl
theorem tw15629585588245803429:0=0:=rfl
theorem tw3684265050678409669:0=0:=rfl
theorem tw6362949056851101125:0=0:=rfl
theorem tw15546906655002344069:0=0:=rfl
theorem tw194200652118511365:0=0:=rfl
theorem tw6959120834463758181:0=0:=rfl
theorem tw5995512357195445221:0=0:=rfl
theorem tw16093175260195045478:0=0:=rfl
theorem tw7579747188132364742:0=0:=rfl
theorem tw4513167561272717862:0=0:=rfl
theorem tw7839078909981200134:0=0:=rfl
theorem tw8869410895079130918:0=0:=rfl
theorem tw480173244127156327:0=0:=rfl
theorem tw15814809343940565191:0=0:=rfl
theorem tw1858440192752743687:0=0:=rfl
theorem tw1916204411346746855:0=0:=rfl
theorem tw4775191728435599975:0=0:=rfl
theorem tw5916206537489013511:0=0:=rfl
theorem tw7688894880191310599:0=0:=rfl
theorem tw1512374585625626471:0=0:=rfl
theorem tw15467465048214784903:0=0:=rfl
theorem tw11166547019607754760:0=0:=rfl
theorem tw7850820372393264328:0=0:=rfl
theorem tw13288793470774331848:0=0:=rfl
theorem tw9703491691279836648:0=0:=rfl
theorem tw5401196031567702568:0=0:=rfl
theorem tw8615915414677212712:0=0:=rfl
theorem tw4885639523750344328:0=0:=rfl
theorem tw9076151815390694280:0=0:=rfl
theorem tw13824386688235512744:0=0:=rfl
theorem tw2905046379583177704:0=0:=rfl
theorem tw15722353584893848649:0=0:=rfl
theorem tw11705035985321958537:0=0:=rfl
theorem tw12806855054961521097:0=0:=rfl
theorem tw8875092977439817225:0=0:=rfl
theorem tw3612826468152912553:0=0:=rfl
theorem tw718387491832689674:0=0:=rfl
theorem tw3616287718817306698:0=0:=rfl
theorem tw18138051511364190506:0=0:=rfl
theorem tw2017183019561464170:0=0:=rfl
theorem tw6926497430179104234:0=0:=rfl
theorem tw14139500557587497706:0=0:=rfl
theorem tw14451128783087518506:0=0:=rfl
theorem tw14958996878166206250:0=0:=rfl
theorem tw11696351308887023594:0=0:=rfl
theorem tw7345455412864657483:0=0:=rfl
theorem tw14503938768493009035:0=0:=rfl
theorem tw15081800540128331979:0=0:=rfl
theorem tw5461944123176989131:0=0:=rfl
theorem tw8276524879061741003:0=0:=rfl
theorem tw811334583715613163:0=0:=rfl
theorem tw17000314825733366571:0=0:=rfl
theorem tw10904826084033457035:0=0:=rfl
theorem tw10591652896181375052:0=0:=rfl
theorem tw2206490430812500140:0=0:=rfl
theorem tw2217233816311793964:0=0:=rfl
theorem tw17532651105091365196:0=0:=rfl
theorem tw15870216444749091372:0=0:=rfl
theorem tw4979062973645639340:0=0:=rfl
theorem tw10735765097575533260:0=0:=rfl
theorem tw12276898425784622828:0=0:=rfl
theorem tw11975802599634016076:0=0:=rfl
theorem tw2233795226866025420:0=0:=rfl
theorem tw17543311171444172813:0=0:=rfl
theorem tw7777981590855069901:0=0:=rfl
theorem tw8711650250096457965:0=0:=rfl
theorem tw11777422747090911469:0=0:=rfl
theorem tw7113107640184414573:0=0:=rfl
theorem tw12433476744641983853:0=0:=rfl
theorem tw14681971015664487853:0=0:=rfl
theorem tw12536283078241723885:0=0:=rfl
theorem tw11448438640801600013:0=0:=rfl
theorem tw2192953450624334349:0=0:=rfl
theorem tw11572280624579595789:0=0:=rfl
theorem tw12985133351033647821:0=0:=rfl
theorem tw4209892329447198445:0=0:=rfl
theorem tw3217238776799474445:0=0:=rfl
theorem tw5925925571910318925:0=0:=rfl
theorem tw15423142355439301678:0=0:=rfl
theorem tw17411175671615587502:0=0:=rfl
theorem tw10189222263335929294:0=0:=rfl
theorem tw4855153469506429454:0=0:=rfl
theorem tw5057314536710142510:0=0:=rfl
theorem tw8306132835936000590:0=0:=rfl
theorem tw17206016740150461038:0=0:=rfl
theorem tw7645446545624257262:0=0:=rfl
theorem tw13957674039793320686:0=0:=rfl
theorem tw868642152482962414:0=0:=rfl
theorem tw12249980319923955951:0=0:=rfl
theorem tw13198489250116442511:0=0:=rfl
theorem tw4941235829867679247:0=0:=rfl
theorem tw9360225350104889871:0=0:=rfl
theorem tw16146722252660099791:0=0:=rfl
theorem tw8064408140656798575:0=0:=rfl
theorem tw6355739245172303759:0=0:=rfl
theorem tw10644063662840048816:0=0:=rfl
theorem tw10223517459644774608:0=0:=rfl
theorem tw8572933516291863824:0=0:=rfl
theorem tw4211049602949453072:0=0:=rfl
theorem tw2192219516936186224:0=0:=rfl
theorem tw15464835783363204752:0=0:=rfl
theorem tw11355744881729560304:0=0:=rfl
theorem tw10140090726113882896:0=0:=rfl
theorem tw17354394010071447408:0=0:=rfl
theorem tw14960715567831452753:0=0:=rfl
theorem tw7632977348759995057:0=0:=rfl
theorem tw17897079327999364081:0=0:=rfl
theorem tw3504058043403830514:0=0:=rfl
theorem tw3604161751335253458:0=0:=rfl
theorem tw11687885701585644018:0=0:=rfl
theorem tw1224861123982500370:0=0:=rfl
theorem tw15706484150915459698:0=0:=rfl
theorem tw1649873105918846674:0=0:=rfl
theorem tw9057317210835074962:0=0:=rfl
theorem tw11699631717257286578:0=0:=rfl
theorem tw3967317540728605747:0=0:=rfl
theorem tw18335409873766559987:0=0:=rfl
theorem tw18424350996807266675:0=0:=rfl
theorem tw1640886449742687699:0=0:=rfl
theorem tw4160291163581632243:0=0:=rfl
theorem tw5234097984303973203:0=0:=rfl
theorem tw1388396411644268403:0=0:=rfl
theorem tw5115101706224664435:0=0:=rfl
theorem tw9400312175573151860:0=0:=rfl
theorem tw9475469656231017588:0=0:=rfl
theorem tw17568703525481645236:0=0:=rfl
theorem tw10843899562308011284:0=0:=rfl
theorem tw9308548625092049204:0=0:=rfl
theorem tw9921686274541504916:0=0:=rfl
theorem tw2274319178538134036:0=0:=rfl
theorem tw14309218243538907028:0=0:=rfl
theorem tw7134958832274895860:0=0:=rfl
theorem tw16271326247603779733:0=0:=rfl
theorem tw1173837864287107221:0=0:=rfl
theorem tw17799479565919785205:0=0:=rfl
theorem tw12605220367687758165:0=0:=rfl
theorem tw3842886911630321141:0=0:=rfl
theorem tw1129604471561456181:0=0:=rfl
theorem tw8552360762180994837:0=0:=rfl
theorem tw9410972133896591189:0=0:=rfl
theorem tw4272920974189901781:0=0:=rfl
theorem tw1199615320723161110:0=0:=rfl
theorem tw4421638945143468086:0=0:=rfl
theorem tw6643803421310675094:0=0:=rfl
theorem tw1847017551724193974:0=0:=rfl
theorem tw12107637253195244790:0=0:=rfl
theorem tw17286800505993795030:0=0:=rfl
theorem tw2022299132408334870:0=0:=rfl
theorem tw8074677791283714646:0=0:=rfl
theorem tw14864997096005785238:0=0:=rfl
theorem tw3947572459240584950:0=0:=rfl
theorem tw16953129645539257238:0=0:=rfl
theorem tw1870984541586431926:0=0:=rfl
theorem tw18063959270033234999:0=0:=rfl
theorem tw9063975244233009207:0=0:=rfl
theorem tw16492818527196503287:0=0:=rfl
theorem tw9272785312018406807:0=0:=rfl
theorem tw1175197132619617047:0=0:=rfl
theorem tw10606284921709161496:0=0:=rfl
theorem tw5171090501419731032:0=0:=rfl
theorem tw4075162768595072216:0=0:=rfl
theorem tw10240435282542528824:0=0:=rfl
theorem tw810465200296840792:0=0:=rfl
theorem tw351674572519612056:0=0:=rfl
theorem tw3026517926020144824:0=0:=rfl
theorem tw12027199961719435160:0=0:=rfl
theorem tw2241162241471535032:0=0:=rfl
theorem tw2465312204011565016:0=0:=rfl
theorem tw1329669070306590712:0=0:=rfl
theorem tw6550039995325934361:0=0:=rfl
theorem tw17683154090752244986:0=0:=rfl
theorem tw8232188648399650042:0=0:=rfl
theorem tw4042581042115409562:0=0:=rfl
theorem tw17359400055678985082:0=0:=rfl
theorem tw9695132532052273179:0=0:=rfl
theorem tw8210056861300182171:0=0:=rfl
theorem tw11422973170426353851:0=0:=rfl
theorem tw10295159385335341275:0=0:=rfl
theorem tw1262884173062279387:0=0:=rfl
theorem tw12164693141652039003:0=0:=rfl
theorem tw1924207498653518235:0=0:=rfl
theorem tw3687209854399358523:0=0:=rfl
theorem tw11855007355772487387:0=0:=rfl
theorem tw15523923673546715931:0=0:=rfl
theorem tw5729886553607864155:0=0:=rfl
theorem tw11086893325170459547:0=0:=rfl
theorem tw10575518625163068379:0=0:=rfl
theorem tw5218972099854849084:0=0:=rfl
theorem tw2530540728032059868:0=0:=rfl
theorem tw5152233595379240508:0=0:=rfl
theorem tw13226351043501343356:0=0:=rfl
theorem tw4182796941343956764:0=0:=rfl
theorem tw7740135492314870748:0=0:=rfl
theorem tw387562077978051645:0=0:=rfl
theorem tw10343894296089494845:0=0:=rfl
theorem tw694564833284219645:0=0:=rfl
theorem tw3221117386600613629:0=0:=rfl
theorem tw790114613682502718:0=0:=rfl
theorem tw9233323819041186910:0=0:=rfl
theorem tw15560753066762094846:0=0:=rfl
theorem tw13487529516689616286:0=0:=rfl
theorem tw17199356138996328926:0=0:=rfl
theorem tw9125277185772674079:0=0:=rfl
theorem tw9736103891849499743:0=0:=rfl
theorem tw16745722049633549471:0=0:=rfl
theorem tw1917777413965185247:0=0:=rfl
theorem tw4797367514769436895:0=0:=rfl
theorem tw18389810951516630335:0=0:=rfl
theorem tw7891158652581933407:0=0:=rfl
theorem tw17726700064533189055:0=0:=rfl
theorem tw12810141149857123135:0=0:=rfl
theorem tw15423189827632065535:0=0:=rfl
theorem tw7577349984895887359:0=0:=rfl
end PySem.W.Fast
open PySem PySem.W PyProof.Rows
set_option hygiene false in
local macro_rules | `(tactic| walk_at "kF")=> `(tactic| (refine' K30.KF.mk ?a (L2.fun_mk ?l ?c ?k);(case a=>k_is);(case l=>k_is);(case c=>k_is);(case k=>k_is)))
set_option maxRecDepth 100000 in
set_option maxHeartbeats 0 in
theorem PySem.Challenge.cw_newsways_k30_what_is_a_letter_holds : PySem.Challenge.rw_newsways_k30_what_is_a_letter.Holds := by
 w_on;o_law;k_head;(case hw=>w_witness2)
 k_fill
 refine K30.walk (l:=PySem.Challenge.rw_newsways_k30_what_is_a_letter) rfl rfl (λw h Y=>PySem.W.kIn_of Y) ?F
 case F=>
  intro w mg fa h KX G hmg;refine' K30.all_mk KX G hmg ?h1 ?h2 ?h3 ?h4 ?h5 ?h6 ?h7 ?h8 ?h9 ?h10 ?h11 ?h12 ?h13 ?h14 ?h15 ?h16 ?h17 ?h18 ?h19 ?h20 ?h21 ?h22 ?h23 ?h24 ?h25 ?h26 ?h27 ?h28 ?h29 ?h30 ?h31 ?h32 ?h33 ?h34 ?h35 ?h36 ?h37 ?h38 ?h39 ?h40 ?h41 ?h42 ?h43 ?h44 ?eML' ?y_D ?y_l ?y_m ?y_k ?y_e ?y_w ?y_n ?y_h ?y_fk ?z_len ?z_range ?z_isinstance ?z_int ?z_bool ?z_tuple ?z_list ?z_max ?z_min ?z_all ?z_zip ?z_str ?z_dict ?z_sorted ?z_set ?z_any ?z_sum ?z_enumerate ?z_repr ?z_ord ?z_chr ?z_abs ?z_reversed
  (case h1=>walk_at "kF");(case h2=>walk_at "kF");(case h3=>walk_at "kF");(case h4=>walk_at "kF");(case h5=>walk_at "kF");(case h6=>walk_at "kF");(case h7=>walk_at "kF");(case h8=>walk_at "kF");(case h9=>walk_at "kF");(case h10=>walk_at "kF");(case h11=>walk_at "kF");(case h12=>walk_at "kF");(case h13=>walk_at "kF");(case h14=>walk_at "kF");(case h15=>walk_at "kF");(case h16=>walk_at "kF");(case h17=>walk_at "kF");(case h18=>walk_at "kF");(case h19=>walk_at "kF");(case h20=>walk_at "kF");(case h21=>walk_at "kF");(case h22=>walk_at "kF");(case h23=>walk_at "kF");(case h24=>walk_at "kF");(case h25=>walk_at "kF");(case h26=>walk_at "kF");(case h27=>walk_at "kF");(case h28=>walk_at "kF");(case h29=>walk_at "kF");(case h30=>walk_at "kF");(case h31=>walk_at "kF");(case h32=>walk_at "kF");(case h33=>walk_at "kF");(case h34=>walk_at "kF");(case h35=>walk_at "kF");(case h36=>walk_at "kF");(case h37=>walk_at "kF");(case h38=>walk_at "kF");(case h39=>walk_at "kF");(case h40=>walk_at "kF");(case h41=>walk_at "kF");(case h42=>walk_at "kF");(case h43=>walk_at "kF");(case h44=>walk_at "kF")
  (case eML'=>k_is)
  (case y_D=>k_is)
  (case y_l=>k_is)
  (case y_m=>first | k_is | rfl | decide | (with_unfolding_all rfl))
  (case y_k=>k_keys)
  (case y_e=>repeat (first | exact L2.Ents.nil | refine L2.Ents.cons rfl rfl ?_))
  (case y_w=>k_is)
  (case y_n=>k_is)
  (case y_h=>k_is)
  (case y_fk=>k_is)
  (case z_len=>k_is);(case z_range=>k_is);(case z_isinstance=>k_is);(case z_int=>k_is);(case z_bool=>k_is);(case z_tuple=>k_is);(case z_list=>k_is);(case z_max=>k_is);(case z_min=>k_is);(case z_all=>k_is);(case z_zip=>k_is);(case z_str=>k_is);(case z_dict=>k_is);(case z_sorted=>k_is);(case z_set=>k_is);(case z_any=>k_is);(case z_sum=>k_is);(case z_enumerate=>k_is);(case z_repr=>k_is);(case z_ord=>k_is);(case z_chr=>k_is);(case z_abs=>k_is);(case z_reversed=>k_is)
