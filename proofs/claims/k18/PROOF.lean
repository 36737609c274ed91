import PyProof.Rows.All
import Wide.All
import OpenK.AllK
import Wide.FinOn
import Lean
import PyProof.EqAt
import PyProof.EqKinds
import PyProof.TupleCall
import PyProof.NeKinds
import KE.IntBitsLaws
import PyProof.PassesOwn
import PyProof.DictCompW
import PyProof.TupleKey
import PyProof.DictRoadsH
import KE.KDictLaws
import PyProof.RulesDelMore
import PyProof.StationsW
import PyProof.RulesAs
import OpenK.KRaise
import PyProof.JoinWalk
import PyProof.StrBlockL
import PyProof.Rows.StrNews2
import KE.KSortKey
import KE.KIntText
import KE.KSortTup
import PyProof.StrWalks
import PyProof.ZipIter
import PyProof.DictWalks
import PyProof.Rows.SortStr
import PyProof.Rows.SortWalk
import PyProof.SetScanFacts
import PyProof.SetKind
import PySem.Challenge.RW_newsways_k18_put_on_and_taken_off
open Array renaming length_toList -> A4, getD_eq_getD_getElem? -> Bz, getElem?_eq_some_iff -> B7, getElem?_toList -> BH, mem_toList_iff -> Cw, forIn_toList -> Dn, getElem_toList -> DX, getElem?_eq_getElem -> E5, size_push -> EW, size_map -> F0, toList_append -> FD, toList_inj -> FG
open Bool renaming and_eq_true -> Ae, eq_false_or_eq_true -> Az, false_eq_true -> A2, eq_iff_iff -> A8, false_ne_true -> Bb, not_true -> Cr, or_eq_true -> CG, not_eq_true' -> Dz, true_and -> D8, not_eq_true -> ED, and_false -> Fm, not_false -> Fu, or_eq_false_iff -> F5
open Classical renaming byContradiction -> AE, not_imp -> D3, not_forall -> F4
open False renaming elim -> E7
open Function renaming comp_apply -> De
open Int renaming emod_lt_of_pos -> B0, emod_nonneg -> BN, toNat_natCast -> CL, mul_le_mul -> CT, mul_nonneg -> Ek, natCast_nonneg -> Eo, zero_add -> EH
open Lean.Macro renaming throwUnsupported -> B2
open List renaming length_map -> Ac, mem_singleton -> Af, mem_cons -> Ag, length_append -> Ah, map_cons -> Aj, mem_append_right -> Am, length_cons -> Ao, getElem?_eq_getElem -> Ap, mem_append -> Aq, getElem?_eq_some_iff -> Ar, mem_cons_of_mem -> Aw, size_toArray -> Ay, mem_filter -> A0, mem_append_left -> A1, all_eq_true -> A3, nil_append -> A5, range -> A6, append_nil -> A9, mem_cons_self -> AA, getElem?_map -> AB, not_mem_nil -> AC, mem_of_getElem? -> AD, mem_map -> AG, cons_append -> AH, getElem_mem -> AI, nodup_cons -> AL, map_append -> AS, cons_lt_cons_iff -> AV, nodup_append -> AZ, getD_eq_getElem?_getD -> A_, lookup_cons -> Bi, map_nil -> Bj, all_map -> Bp, mem_filterMap -> By, map_map -> B8, take_of_length_le -> B9, mem_range -> BA, length_range -> BD, pairwise_map -> BE, mem_map_of_mem -> BF, drop_eq_getElem_cons -> BG, map_congr_left -> BO, perm_ext_iff_of_nodup -> BU, lt_irrefl -> BY, getElem?_of_mem -> BZ, all_cons -> Ce, length_take -> Cj, append_assoc -> Cs, getElem?_zip_eq_some -> Cu, toArray -> C0, any_eq_true -> CA, flatMap_append -> CB, any_cons -> CC, drop_of_length_le -> CI, flatMap_cons -> CM, mem_iff_getElem? -> CN, length_drop -> CY, toList_toArray -> Dc, getElem?_eq_none_iff -> Df, pairwise_iff_getElem -> Dj, mem_of_find?_eq_some -> Dk, length_nil -> Dl, ext_getElem? -> Dy, filter_cons -> DD, getElem?_eq_none -> DF, forIn_cons -> DJ, getElem?_modify -> DM, isEmpty_toArray -> DU, pairwise_append -> Ea, find?_some -> Eb, filterMap_cons -> Ec, getElem?_range -> Ee, filter_sublist -> Ef, forIn_nil -> Eg, findIdx?_cons -> Em, pairwise_cons -> Et, getElem?_append_right -> Ex, lt_trans -> Ez, mapM_toArray -> E1, countP_congr -> E3, getElem?_append_left -> E8, drop_length -> E9, eraseIdx_cons_succ -> EJ, length_eraseIdx_le -> EL, range_succ_eq_map -> EZ, getElem?_set_self -> E_, length_pos_of_mem -> Fc, map_id -> Fi, find?_cons_of_pos -> Fj, find?_cons_of_neg -> Fl, drop_zero -> Fn, length_eraseIdx -> F2, getElem?_set_ne -> F3, getElem_of_mem -> F8, length_zipWith -> F9, find?_eq_none -> FE
open List.Perm renaming eq_of_pairwise -> C9
open List.cons renaming injEq -> ES
open Nat renaming le_refl -> Al, le_trans -> At, zero_le -> AK, ne_of_lt -> Ba, le_of_lt -> BI, lt_of_le_of_lt -> BJ, lt_of_lt_of_le -> CD, ble_eq -> CF, mod_lt -> Dw, le_of_succ_le_succ -> D4, le_of_eq -> DL, not_lt_zero -> DY, zero_add -> DZ, lt_succ_of_lt -> E2, lt_or_ge -> EE
open Nat.succ renaming inj -> Cm
open Ne renaming symm -> Be
open Option renaming bind_some -> Ci, isSome_iff_exists -> C7, map_eq_some_iff -> CH, bind_eq_some_iff -> EK
open Option.some renaming inj -> Bg
open PyProof.Rows renaming seqObj -> AW, slot_tuple_getitem -> B3, entry_list_sort -> EY, slot_list_sort -> Fx
open PyProof.Rows.F renaming plain_set_update_loop -> Co, entry_set_update_loop -> Dt
open PySem renaming wpAny_bind -> Aa, wpAny_pure -> Ab, starEach -> Ai, sizeLine -> An, wpAny_holding -> Av, Around -> Ax, wpAny_call_entry -> A7, wpAny_callSpecial?_slot -> AJ, Program -> AM, bootBuiltins -> AN, wpAny_mono -> AO, wpAny_truthy_bool -> AR, wpAny_loadPart' -> AX, SetTable -> AY, wpAny_newObj_type -> Bd, cellsFrom -> Bm, wpAny_Call_Name_kw -> Bq, mainGlobals -> Br, wpAny_specialOf -> Bw, wpAny_field -> Bx, wpAny_seqItems -> BB, compareOp -> BC, FuncData -> BL, codeAny_builtin -> BM, codeAny_mono -> BP, sysModules -> BR, wpAny_rule -> BS, foldedSetIterable -> Cc, wpAny_dictEntries -> Cd, wpAny_typeNameOfWhole_keyiter -> Cf, mem_of_lookup -> Ch, wpAny_setField_rec -> Cn, wpAny_standAt -> Cp, wpAny_setState_of -> Ct, wpAny_comprehension_free -> C5, wpAny_typeNameOf_keyiter -> C8, wpAny_sequenceKey -> CK, wpAny_notOrdered_dict -> CO, wpAny_callSpecialIfBoundUnlessNone?_slot -> CV, wpAny_forIn_list -> CW, plainId_quiet -> C_, wpAny_letGo -> Db, wpAny_passesOwn -> Dg, wpAny_typeOf -> Do, wpAny_pyIter_list -> Dx, wpAny_attempt -> D9, wpAny_isInstance -> DB, letOwnedTupleGo -> DH, wpAny_updateDictKeys -> DP, wpAny_callSpecialIfBound?_slot -> DV, wpAny_updateSeq_pair -> D_, wpAny_setField -> Ej, DictEntry -> En, wpAny_richCompare_same_room -> Ep, wpAny_pyIter_tuple -> Er, wpAny_onRaise -> Ey, wpAny_assign_Name -> E0, wpAny_callSpecial?_none -> EN, wpAny_execs_nil -> ET, wpAny_ret_mkInt -> EU, wpAny_dictEpoch -> EX, wpAny_pyNext_list_item -> Fb, wpAny_runValue -> Ft
open PySem.Around renaming in1_units -> Bh, under_plainId -> B6, under -> EC
open PySem.Builtin.Dict renaming takeOut -> DQ, showsAll -> Fv
open PySem.Builtin.Dict_items renaming ownsTuple -> Ei
open PySem.Builtin.Int renaming intBits -> F6
open PySem.Builtin.List renaming listExtendWith -> CU, listLengthHint -> Es, listSameRef -> EG
open PySem.Builtin.Slice renaming slicePlaces -> Cz, sliceAdjust -> Dh, sliceApplied -> Ew
open PySem.Builtin.SmallTypes renaming nextOf -> Bf, ownedTupleIsFree -> BK, ownedTupleHandOut -> Ds
open PySem.Builtin.Str renaming strSliceIndices -> AF, occurrences -> EI
open PySem.Builtin.Tuple renaming tupleExact -> C6, tupleItemsOf -> CZ, tupleHashOf -> E4
open PySem.Calls renaming spliced_cons -> BW, spliced_nil -> CJ, call_function_entry -> Di, callWith_builtin -> D5, evalArgs_plain -> DR, Name_function_global -> Eu
open PySem.F renaming slot_dict_keyiterator_next -> Bt, slot_tuple_iterator_next -> BV, slot_tuple_hash -> Cg, slot_NoneType_hash -> Cq, slot_dict_len -> CQ, slot_zip_next -> CS, args_dict_keyiterator_next_1 -> Dq, entry_dict_keyiterator_next -> Dv, args_tuple_iterator_next_1 -> D1, entry_tuple_iterator_next -> D6, slot_dict_setdefault -> Eh, slot_dict_delitem -> E6, slot_str_getitem -> EB, plainAttrs_dict -> EM, args_zip_next_1 -> EO, plain_list_iadd -> EQ, plainAttrs_list -> ER, slot_tuple_lt -> EV, slot_dict_iter -> Fe, entry_zip_next -> Fg, slot_dict_get -> Fo, plain_set_new -> Fy
open PySem.Heap renaming get?_push_of_some -> Ad, get?_push_size -> Ak, lt_size -> As, SameBut -> AU, get?_update_self -> Bn, size_push -> Bu, IsTuple -> EF, ExtBut -> Fd, get?_update_other -> Fh, get?_update_ne -> FB
open PySem.Heap.SameBut renaming update -> Bs
open PySem.IsL renaming update -> EA
open PySem.Obj renaming mapSeq -> AQ, data_mapDictKeys -> Cy, isFreed_of_dict -> Dd, data_mapFields -> Dr, isFreed_of_fields -> Fw
open PySem.SetTable renaming below -> Bc, insertAt_perm -> D7, advance -> DC, grown -> Fz, sameMemory -> FC
open PySem.Str renaming ofString -> Au
open PySem.Txt renaming join -> Dp
open PySem.W renaming Frag -> AT, emptyDict -> Bo, instObj -> Bv, fnOf -> BQ, findIn -> BX, kia_one -> B_, kia_tup -> Cb, cellsFrom_some -> Ck, keepIn -> CP, mg_of -> Da, nsIn -> Du, kitx_list -> D0, plainGet_of -> Ed, codeIn -> Fp, lookIn -> Fq, methodCall_KW -> Fs, callWith_K0 -> F7
open PySem PySem.Spec PyProof.Rows
set_option Elab.async false
set_option linter.all false
set_option maxRecDepth 100000
namespace Lake
inductive D where
 | non | bl (b:Bool) | int (i:Int) | str (x:Str) | ty (n:String) | gl (x:Str) | ref (a:Addr) | exc (c:Str) | tup (ds:List D) | lst (ds:List D)
mutual
def Gf:D->D->Bool
 | .non,.non=>true
 | .bl a,.bl b=>a==b
 | .int a,.int b=>a==b
 | .str a,.str b=>a==b
 | .ty a,.ty b=>a==b
 | .gl a,.gl b=>a==b
 | .ref a,.ref b=>a==b
 | .exc a,.exc b=>a==b
 | .tup a,.tup b=>H4 a b
 | .lst a,.lst b=>H4 a b
 | _,_=>false
def H4:List D->List D->Bool
 | [],[]=>true
 | a::as,b::bs=>Gf a b && H4 as bs
 | _,_=>false
end
mutual
theorem Kk:∀d e:D,Gf d e=true↔d=e
 | .tup a,e=>by cases e<;>simp[Gf,Oi a]
 | .lst a,e=>by cases e<;>simp[Gf,Oi a]
 | .non,e | .bl _,e | .int _,e | .str _,e | .ty _,e | .gl _,e | .ref _,e | .exc _,e=>by cases e<;>simp[Gf]
theorem Oi:∀d e:List D,H4 d e=true↔d=e
 | [],[]=>by simp[H4]
 | a::as,b::bs=>by rw[H4,Ae,Kk a b,Oi as bs,ES]
 | [],_::_=>by simp[H4]
 | _::_,[]=>by simp[H4]
end
instance:DecidableEq D:=λa b=>decidable_of_iff _ (Kk a b)
theorem ID(a b:D):decide (a=b)=Gf a b:=by rw[A8,decide_eq_true_iff,Kk]
theorem L9(d:D):Gf d d=true:=(Kk d d).2 rfl
inductive OD where
 | lst (ds:List D) | dct (t:Bool) (ks vs:List D) | wlk (t:Bool) (ep:Nat) (ks vs:List D) | ins (C:Str) (fs:List (Str×D))
noncomputable abbrev Hd:=Addr->Option OD
noncomputable def put(hd:Hd)(a:Addr)(o:OD):Hd:=λb=>if b=a then some o else hd b
noncomputable def cut(hd:Hd)(a:Addr):Hd:=λb=>if b=a then none else hd b
theorem put_same{hd:Hd}{a:Addr}{o:OD}:put hd a o a=some o:=if_pos rfl
theorem FR{hd:Hd}{a b:Addr}{o:OD}(h:b≠a):put hd a o b=hd b:=if_neg h
theorem NJ{hd:Hd}{a:Addr}:cut hd a a=none:=if_pos rfl
theorem Ki{hd:Hd}{a b:Addr}(h:b≠a):cut hd a b=hd b:=if_neg h
theorem NV{hd:Hd}{a:Addr}{o o':OD}:put (put hd a o) a o'=put hd a o':=by funext b;unfold put;split<;>rfl
noncomputable def Le(hd hd':Hd):Prop:=∀a o,hd a=some o->hd' a=some o
theorem Le.refl(hd:Hd):Le hd hd:=λ_ _ h=>h
theorem Le.put{hd:Hd}{p:Addr}{o:OD}(h:hd p=none):Le hd (put hd p o):=λa o' e=>by rw[FR (by rintro rfl;simp_all)];exact e
theorem Le.cut{hd:Hd}{p:Addr}:Le (cut hd p) hd:=λa o e=>by unfold Lake.cut at e;split at e<;>simp_all
theorem Le.none{hd hd':Hd}(l:Le hd hd'){a:Addr}(h:hd' a=none):hd a=none:=by
 cases e:hd a with
 | none=>rfl
 | some o'=>rw[l a o' e] at h;cases h
structure Hx where
 hd:Hd
 ow:Addr->Option Addr
noncomputable abbrev Hx.fr(H:Hx)(a:Addr):Prop:=H.hd a=none/\H.ow a=none
noncomputable abbrev Hx.so(H:Hx)(a:Addr):Prop:=H.hd a=none/\H.ow a=some a
noncomputable abbrev Hx.to(H:Hx)(hd:Hd):Hx:=⟨hd,H.ow⟩
noncomputable abbrev Hx.own(H:Hx)(a:Addr)(x:Addr):Hx:=⟨H.hd,λb=>if b=a then some x else H.ow b⟩
structure Ev where
 P:AM
 w:World
 K:AT
 mg:Str->Option Value
inductive Sq(h:Heap)(H:Hx)(c:String)(a:Addr)(us:List Value):Prop
 | mk (f:H.fr a) (l:us.length<=An) (o:Obj) (n:Nat) (e:h.get? a=some o) (r:o.cls= .type c/\o.dict=none/\o.data= .seq us.toArray n/\(c="list"->o={cls:= .type "list",data:= .seq us.toArray n}))
mutual
inductive Rv(G:Ev)(h:Heap)(H:Hx):D->Value->Prop
 | non:Rv G h H .non .none
 | bl (b:Bool):Rv G h H (.bl b) (.bool b)
 | int (i:Int) (t:Tok):Rv G h H (.int i) (.int i t)
 | str (x:Str) (t:Tok):Rv G h H (.str x) (.str x t)
 | ty (n:String):Rv G h H (.ty n) (.type n)
 | ref (a:Addr):Rv G h H (.ref a) (.ref a)
 | gl {x:Str} {u:Value}:G.mg x=some u->PySem.W.handedIn u=true->Rv G h H (.gl x) u
 | exc {c:Str} {a C:Addr} {o:Obj}:G.mg c=some (.ref C)->h.get? a=some o->o.cls= .ref C->H.fr a->Rv G h H (.exc c) (.ref a)
 | tup {a:Addr} {us:List Value} {ds:List D}:Sq h H "tuple" a us->Rvs G h H ds us->Rv G h H (.tup ds) (.ref a)
 | lst {a:Addr} {us:List Value} {ds:List D}:Sq h H "list" a us->Rvs G h H ds us->Rv G h H (.lst ds) (.ref a)
inductive Rvs(G:Ev)(h:Heap)(H:Hx):List D->List Value->Prop
 | nil:Rvs G h H [] []
 | cons {d:D} {u:Value} {ds:List D} {us:List Value}:Rv G h H d u->Rvs G h H ds us->Rvs G h H (d::ds) (u::us)
end
noncomputable def Im(h:Heap)(H:Hx)(h':Heap)(H':Hx):Prop:=∀a o,h.get? a=some o->H.fr a->h'.get? a=some o/\H'.fr a
section
variable{G:Ev}{h h' h2:Heap}{H H' H2:Hx}
theorem Im.trans(x:Im h H h' H')(y:Im h' H' h2 H2):Im h H h2 H2:=λa o e f=>let⟨e1,f1⟩:=x a o e f;y a o e1 f1
theorem Sq.im{c:String}{a:Addr}{us:List Value}(s:Sq h H c a us)(f:Im h H h' H'):Sq h' H' c a us:=let⟨f0,l,o,n,e,r⟩:=s;let⟨e1,f1⟩:=f a o e f0;⟨f1,l,o,n,e1,r⟩
theorem Rv.im(f:Im h H h' H'){d:D}{u:Value}(r:Rv G h H d u):Rv G h' H' d u:=
 @Rv.rec G h H (λd u _=>Rv G h' H' d u) (λd u _=>Rvs G h' H' d u) .non .bl .int .str .ty .ref .gl (λe g k n=> .exc e (f _ _ g n).1 k (f _ _ g n).2) (λs _ r=> .tup (s.im f) r) (λs _ r=> .lst (s.im f) r) .nil (λ_ _ a b=> .cons a b) d u r
theorem Rvs.iff:∀{ds:List D}{us:List Value},Rvs G h H ds us↔ds.length=us.length/\∀(i:Nat)(d:D)(u:Value),ds[i]?=some d->us[i]?=some u->Rv G h H d u
 | [],[]=>by simp[Rvs.nil]
 | [],_::_=>⟨nofun,λx=>nomatch x.1⟩
 | _::_,[]=>⟨nofun,λx=>nomatch x.1⟩
 | d::ds,u::us=>by
  constructor
  . rintro(_ | ⟨a,b⟩);have:=Rvs.iff.1 b;exact⟨by simp[this.1],λi e v=>by cases i<;>grind⟩
  . exact λ⟨l,f⟩=> .cons (f 0 _ _ rfl rfl) (Rvs.iff.2 ⟨by simpa using l,λi e v x y=>f (i+1) e v x y⟩)
variable{ds es:List D}{us vs:List Value}
theorem Rvs.im(f:Im h H h' H')(r:Rvs G h H ds us):Rvs G h' H' ds us:=have⟨l,g⟩:=Rvs.iff.1 r;Rvs.iff.2 ⟨l,λi d u a b=>(g i d u a b).im f⟩
theorem Rvs.length(r:Rvs G h H ds us):ds.length=us.length:=(Rvs.iff.1 r).1
theorem Rvs.get(r:Rvs G h H ds us){i:Nat}{d:D}(e:ds[i]?=some d):∃u,us[i]?=some u/\Rv G h H d u:=by
 have⟨l,f⟩:=Rvs.iff.1 r;have k:i<us.length:=by grind
 exact⟨us[i],by grind,f i _ _ e (by grind)⟩
theorem Rvs.get'(r:Rvs G h H ds us){i:Nat}{u:Value}(e:us[i]?=some u):∃d,ds[i]?=some d/\Rv G h H d u:=by
 have⟨l,f⟩:=Rvs.iff.1 r;have k:i<ds.length:=by grind
 exact⟨ds[i],by grind,f i _ _ (by grind) e⟩
theorem Rvs.app(r:Rvs G h H ds us)(q:Rvs G h H es vs):Rvs G h H (ds++es) (us++vs):=by rw[Rvs.iff] at*;grind
theorem Rvs.take(n:Nat)(r:Rvs G h H ds us):Rvs G h H (ds.take n) (us.take n):=by rw[Rvs.iff] at*;grind
theorem Rvs.drop(n:Nat)(r:Rvs G h H ds us):Rvs G h H (ds.drop n) (us.drop n):=by rw[Rvs.iff] at*;grind
theorem Rvs.erase(i:Nat)(r:Rvs G h H ds us):Rvs G h H (ds.eraseIdx i) (us.eraseIdx i):=by rw[Rvs.iff] at*;grind [List.getElem?_eraseIdx,F2]
theorem Rvs.set{d:D}{u:Value}(i:Nat)(r:Rvs G h H ds us)(q:Rv G h H d u):Rvs G h H (ds.set i d) (us.set i u):=by rw[Rvs.iff] at*;grind
end
section
variable{G:Ev}{h:Heap}{H:Hx}{d:D}{ds:List D}{u:Value}{us:List Value}
theorem Rv.n(r:Rv G h H .non u):u= .none:=by cases r;rfl
theorem Rv.b{b:Bool}(r:Rv G h H (.bl b) u):u= .bool b:=by cases r;rfl
theorem Rv.i{i:Int}(r:Rv G h H (.int i) u):∃t,u= .int i t:=by cases r;exact⟨_,rfl⟩
theorem Rv.s{x:Str}(r:Rv G h H (.str x) u):∃t,u= .str x t:=by cases r;exact⟨_,rfl⟩
theorem Rv.r{a:Addr}(r:Rv G h H (.ref a) u):u= .ref a:=by cases r;rfl
theorem Rv.y{n:String}(r:Rv G h H (.ty n) u):u= .type n:=by cases r;rfl
theorem Rv.t(r:Rv G h H (.tup ds) u):∃a us,u= .ref a/\Sq h H "tuple" a us/\Rvs G h H ds us:=by cases r with | tup p q=>exact⟨_,_,rfl,p,q⟩
theorem Rvs.n(r:Rvs G h H [] us):us=[]:=by cases r;rfl
theorem Rvs.c(r:Rvs G h H (d::ds) us):∃u vs,us=u::vs/\Rv G h H d u/\Rvs G h H ds vs:=by cases r with | cons a b=>exact⟨_,_,rfl,a,b⟩
theorem r1(r:Rvs G h H [d] us):∃u,us=[u]/\Rv G h H d u:=by obtain⟨u,_,rfl,a,b⟩:=r.c;cases b.n;exact⟨u,rfl,a⟩
theorem r2{e:D}(r:Rvs G h H [d,e] us):∃u v,us=[u,v]/\Rv G h H d u/\Rv G h H e v:=by obtain⟨u,_,rfl,a,b⟩:=r.c;obtain⟨v,rfl,c⟩:=r1 b;exact⟨u,v,rfl,a,c⟩
end
theorem l1{P:D->Prop}{ds:List D}(q:match ds with | [x]=>P x | _=>False):∃x,ds=[x]/\P x:=by match ds,q with | [x],q=>exact⟨x,rfl,q⟩
theorem l2{P:D->D->Prop}{ds:List D}(q:match ds with | [x,y]=>P x y | _=>False):∃x y,ds=[x,y]/\P x y:=by match ds,q with | [x,y],q=>exact⟨x,y,rfl,q⟩
theorem i1{P:Int->Prop}{ds:List D}(q:match ds with | [.int i]=>P i | _=>False):∃i,ds=[.int i]/\P i:=by match ds,q with | [.int i],q=>exact⟨i,rfl,q⟩
theorem i2{P:Int->Int->Prop}{ds:List D}(q:match ds with | [.int i,.int j]=>P i j | _=>False):∃i j,ds=[.int i,.int j]/\P i j:=by match ds,q with | [.int i,.int j],q=>exact⟨i,j,rfl,q⟩
theorem e1{α:Type}{us:List α}(h:us.length=1):∃a,us=[a]:=by match us,h with | [a],_=>exact⟨a,rfl⟩
theorem e2{α:Type}{us:List α}(h:us.length=2):∃a b,us=[a,b]:=by match us,h with | [a,b],_=>exact⟨a,b,rfl⟩
mutual
def isK:D->Bool
 | .non=>true
 | .int _=>true
 | .str _=>true
 | .tup ds=>isKs ds
 | _=>false
def isKs:List D->Bool
 | []=>true
 | d::ds=>isK d && isKs ds
end
mutual
def Ih(w:World):D->Int
 | .int i=>hashInt i
 | .str x=>hashStr w x
 | .tup ds=>reduceHash (E4 (Kg w ds))
 | _=>0xFCA86420
def Kg(w:World):List D->List Int
 | []=>[]
 | d::ds=>Ih w d::Kg w ds
end
mutual
def Gz:D->Nat
 | .tup ds=>HZ ds+1
 | _=>0
def HZ:List D->Nat
 | []=>0
 | d::ds=>max (Gz d) (HZ ds)
end
noncomputable def G3(t:Bool):D->Bool
 | .int _=>!t
 | .str _=>!t
 | .tup ds=>t && isKs ds && Nat.ble (HZ ds) 7
 | _=>false
noncomputable def DObj(w:World)(ks:List D)(ep:Nat)(us ws:List Value)(o:Obj):Prop:=o.ExactDict/\∃es,o.data= .dict es ep/\es.toList.map (·.key)=us/\es.toList.map (·.val)=ws/\es.toList.map (·.hash)=ks.map (Ih w)
inductive DctOk(G:Ev)(h:Heap)(H:Hx)(a:Addr)(t:Bool)(ep:Nat)(ks vs:List D):Prop
 | mk (l:ks.length<=An) (y:(a==BR)=false) (nd:ks.Nodup) (ka:ks.all (G3 t)=true) (o:Obj) (us ws:List Value) (e:h.get? a=some o) (d:DObj G.w ks ep us ws o) (r:Rvs G h H ks us/\Rvs G h H vs ws)
theorem DctOk.im{G:Ev}{h h':Heap}{H H':Hx}{a t ep ks vs}(x:DctOk G h H a t ep ks vs)(f:Im h H h' H')(k:∀u,h.get? a=some u->h'.get? a=some u):DctOk G h' H' a t ep ks vs:=let⟨l,y,nd,ko,o,us,ws,e,d,r1,r2⟩:=x;⟨l,y,nd,ko,o,us,ws,k _ e,d,r1.im f,r2.im f⟩
noncomputable def OkO(G:Ev)(h:Heap)(H:Hx)(a:Addr):OD->Prop
 | .lst ds=>∃us n,ds.length<=An/\Rvs G h H ds us/\h.get? a=some {cls:= .type "list",data:= .seq us.toArray n}
 | .dct t ks vs=>∃ep,DctOk G h H a t ep ks vs
 | .wlk t ep ks vs=>DctOk G h H a t ep ks vs
 | .ins C fs=>fs.length<=1000/\∃Ca dx mA,G.mg C=some (.ref Ca)/\H.ow dx=some a/\h.get? a=some (Bv Ca dx)/\h.Ns1 dx mA/\PySem.Within mA (fs.map (·.1))/\
  ∀f,match fs.lookup f,mA f with | some d,some u=>Rv G h H d u | none,none=>True | _,_=>False
structure HOk(G:Ev)(h:Heap)(H:Hx):Prop where
 at':∀a o,H.hd a=some o->OkO G h H a o
 ow:∀b x,H.ow b=some x->H.hd b=none/\∃o,h.get? b=some o
section
variable{G:Ev}{h h':Heap}{H H':Hx}{a:Addr}{o:OD}
theorem OkO.lt(x:OkO G h H a o):a<h.objs.size:=by
 cases o with
 | lst _=>obtain⟨_,_,_,_,e⟩:=x;exact As e
 | dct _ _ _=>obtain⟨_,_,_,_,_,_,_,_,e,_⟩:=x;exact As e
 | wlk _ _ _ _=>obtain⟨_,_,_,_,_,_,_,e,_⟩:=x;exact As e
 | ins _ _=>obtain⟨_,_,_,_,_,_,e,_⟩:=x;exact As e
theorem HOk.fresh(k:HOk G h H)(l:h.objs.size<=a):H.fr a:=by
 constructor
 . cases e:H.hd a with
   | none=>rfl
   | some o=>have:=(k.at' a o e).lt;exfalso;lia
 . cases e:H.ow a with
   | none=>rfl
   | some o=>have:=As (k.ow a o e).2.choose_spec;exfalso;lia
theorem OkO.stay(x:OkO G h H a o)(f:Im h H h' H')(k:∀b u,b=a\/H.ow b=some a->h.get? b=some u->h'.get? b=some u)(ho:∀b,H.ow b=some a->H'.ow b=some a):OkO G h' H' a o:=by
 cases o with
 | lst _=>obtain⟨us,n,l,r,e⟩:=x;exact⟨us,n,l,r.im f,k _ _ (.inl rfl) e⟩
 | dct _ _ _=>exact let⟨ep,x⟩:=x;⟨ep,x.im f λu=>k _ u (.inl rfl)⟩
 | wlk _ _ _ _=>exact DctOk.im x f λu=>k _ u (.inl rfl)
 | ins C fs=>
  obtain⟨l,Ca,dx,mA,m,w,e,n,wi,r⟩:=x;refine⟨l,Ca,dx,mA,m,ho _ w,k _ _ (.inl rfl) e,n.at λu q=>k _ _ (.inr w) q,wi,λz=>?_⟩;have:=r z
  revert this
  cases fs.lookup z<;>cases mA z<;>first | exact id | exact Rv.im f
end
noncomputable def Th(h h':Heap):Prop:=∀b o,h.get? b=some o->∃o',h'.get? b=some o'
theorem Th.same{h h':Heap}{a:Addr}(sb:AU a h h')(e:∃o,h'.get? a=some o):Th h h':=λb o q=>if z:b=a then z ▸ e else⟨o,(sb.2 b z).trans q⟩
structure Un(fs ex:List Addr)(H H':Hx)(h h':Heap):Prop where
 im:Im h H h' H'
 keep:∀b o,h.get? b=some o->H.so b->b ∉ fs->b ∉ ex->h'.get? b=some o
 slot:∀b o,h.get? b=some o->H.so b->b∈fs->b ∉ ex->∃sl,h'.get? b=some {o with slots:=sl}
 so:∀b o,h.get? b=some o->H.so b->b ∉ ex->H'.so b
section
variable{fs fs' ex ex':List Addr}{G:Ev}{H H1 H2:Hx}{h h1 h2 h':Heap}{a e x:Addr}{o:OD}
theorem Un.any(u:Un fs ex H H1 h h1){b:Addr}{ob:Obj}(q:h.get? b=some ob)(n:H.so b)(hx:b ∉ ex):∃sl,h1.get? b=some {ob with slots:=sl}:=by
 by_cases hb:b∈fs
 . exact u.slot b ob q n hb hx
 . exact⟨ob.slots,u.keep b ob q n hb hx⟩
end
structure Mod(K:AT)(mg:Str->Option Value)(base:Heap):Prop where
 kin:K.In base
 glob:base.Ns Br mg
 blt:∃mb,base.Ns builtinsNs mb/\∀x:Str,x≠"__name__"->mb x=AN x
 nolimit:base.NoLimit
structure Cx where
 prog:AM
 w:World
 K:AT
 mg:Str->Option Value
 base:Heap
 A:Ax
 N:List Str
 s₀:Shared
 H₀:Hx
 env:Env
 outer:List Env
 stack:List Env
 ex:List Addr
 fn:Str->Bool
 calm:Bool
 pn:List (Addr×Obj)
 xe:Value->Shared->Prop
noncomputable def HW(l:List Env):List Addr:=l.filterMap (·.frame)
noncomputable abbrev Cx.fs(X:Cx):List Addr:=HW X.outer
noncomputable abbrev Cx.ev(X:Cx):Ev:=⟨X.prog,X.w,X.K,X.mg⟩
noncomputable abbrev Cx.W{α:Type}(X:Cx)(t:Sem α)(Q:α->Shared->Prop)(s:Shared):Prop:=wpAny (model X.prog X.w) X.A t Q X.xe s
noncomputable def MT(sc:Scope)(x:Str):Prop:=sc.names.lookup x=some .local\/sc.names.lookup x=some .cell\/sc.names.lookup x=some .free
noncomputable def KE(sc:Scope)(x:Str):Prop:=sc.names.lookup x=some .local\/sc.names.lookup x=some .cell
noncomputable def KD(env:Env)(h:Heap)(m:Str->Option Value)(x:Str)(u:Value):Prop:=
 (env.kindOf x=some .local/\m x=some u)\/((env.kindOf x=some .cell\/env.kindOf x=some .free)/\∃c,env.cells.lookup x=some c/\h.IsCell c (some u))
structure Cx.Ok(X:Cx):Prop where
 mod:Mod X.K X.mg X.base
 kind:X.env.scope.kind= .function
 glob:X.env.globals=Br
 blt:X.env.builtins=builtinsNs
 above:X.s₀.heap.objs.size<=X.env.locals
 inj:∀x y c,X.env.cells.lookup x=some c->X.env.cells.lookup y=some c->x=y
 has:∀x,(X.env.kindOf x=some .cell\/X.env.kindOf x=some .free)->∃c,X.env.cells.lookup x=some c
 cab:∀x c,X.fn x=true->X.env.cells.lookup x=some c->X.s₀.heap.objs.size<=c
 hd:X.calm=true->X.A.handled=none
 frames:X.A.frames=some X.stack
 stk:X.stack=X.outer\/(X.stack=X.env::X.outer/\X.env.frame=some X.env.locals)
 exf:∀b∈X.ex,b≠X.env.locals/\(∀x c,X.env.cells.lookup x=some c->c≠b)/\b ∉ X.fs/\X.H₀.so b
 bs:∀b o,X.base.get? b=some o->X.s₀.heap.get? b=some o/\X.H₀.fr b
 bsz:X.base.objs.size<=X.s₀.heap.objs.size
 funs:X.s₀.heap.FunFrames X.base X.outer
 frf:∀b∈X.fs,X.H₀.so b/\∃o,X.s₀.heap.get? b=some o
noncomputable abbrev Sd:=List (Option D)
structure Inv(X:Cx)(pins:List (Addr×Obj))(vl:List (D×Value))(σ:Sd)(H:Hx)(s:Shared):Prop where
 ok:X.Ok
 os:s.os=X.s₀.os
 bare:AllBare s.gens
 base:Un X.fs X.ex X.H₀ H X.s₀.heap s.heap
 loc:∃m,s.heap.Ns X.env.locals m/\∀(i:Nat)(x:Str)(d:D),X.N[i]?=some x->σ[i]?=some (some d)->MT X.env.scope x->∃u,Rv X.ev s.heap H d u/\KD X.env s.heap m x u
 val:∀p∈vl,Rv X.ev s.heap H p.1 p.2
 cell:∀x c,X.env.cells.lookup x=some c->(∃v,s.heap.IsCell c v)/\H.so c
 free:H.so X.env.locals
 pin:∀p∈X.pn++pins,s.heap.get? p.1=some p.2/\H.so p.1/\p.1≠X.env.locals/\p.1 ∉ X.fs/\∀v,p.2.data≠ .cell v
 hok:HOk X.ev s.heap H
 len:σ.length=X.N.length
section
variable{X:Cx}{pins:List (Addr×Obj)}{vl:List (D×Value)}{σ:Sd}{H H':Hx}{s:Shared}{h':Heap}{a x e:Addr}{o:OD}{d:D}{u:Value}
theorem Inv.bs(I:Inv X pins vl σ H s):∀b o,X.base.get? b=some o->s.heap.get? b=some o/\H.fr b:=λb o e=>let⟨e1,f⟩:=I.ok.bs b o e;I.base.im b o e1 f
theorem Inv.bk(I:Inv X pins vl σ H s):∀b o,X.base.get? b=some o->s.heap.get? b=some o:=λb o e=>(I.bs b o e).1
theorem Inv.kIn(I:Inv X pins vl σ H s):X.K.In s.heap:=I.ok.mod.kin.keeps I.bk
theorem Inv.lt(I:Inv X pins vl σ H s):X.env.locals<s.heap.objs.size:=let⟨_,hn,_⟩:=I.loc;hn.lt
theorem Inv.sz(I:Inv X pins vl σ H s):X.s₀.heap.objs.size<=s.heap.objs.size:=At I.ok.above (BI I.lt)
theorem Inv.nofs(I:Inv X pins vl σ H s)(h:s.heap.objs.size<=a):a ∉ X.fs:=λhb=>by
 obtain⟨n,o,e⟩:=I.ok.frf a hb;have:=As (I.hok.ow a a (I.base.so a o e n λz=>(I.ok.exf a z).2.2.1 hb).2).2.choose_spec
 lia
theorem Inv.cne(I:Inv X pins vl σ H s):∀x c,X.env.cells.lookup x=some c->c≠X.env.locals:=λx c e z=>by obtain⟨⟨v,o,ho,hd⟩,_⟩:=I.cell x c e;obtain⟨m,⟨o',es,ep,ho',hd',_⟩,_⟩:=I.loc;rw[z,ho'] at ho;cases ho;rw[hd'] at hd;cases hd
theorem Inv.funs(I:Inv X pins vl σ H s):s.heap.FunFrames X.base X.outer:=by
 have all:∀(l:List Env),(∀b∈HW l,b∈X.fs)->X.s₀.heap.FunFrames X.base l->s.heap.FunFrames X.base l:=by
  intro l
  induction l with
  | nil=>intro _ _;trivial
  | cons env r ih=> intro hs hl;obtain⟨hk,⟨L,o,hf,hn,ho,hd⟩,hr⟩:=hl;have hL:L∈X.fs:=hs L (by unfold HW;rw[Ec,hf];exact AA);obtain⟨sl,e⟩:=I.base.slot L o ho (I.ok.frf L hL).1 hL λz=>(I.ok.exf L z).2.2.1 hL;exact⟨hk,⟨L,_,hf,hn,e,hd⟩,ih (λb hb=>hs b (by unfold HW;rw[Ec,hf];exact Aw _ hb)) hr⟩
 exact all X.outer (λ_ hb=>hb) I.ok.funs
theorem Inv.stack(I:Inv X pins vl σ H s):s.heap.FunFrames X.base X.stack:=by
 rcases I.ok.stk with e | ⟨e,hf⟩
 . rw[e];exact I.funs
 . rw[e];obtain⟨m,hn,_⟩:=I.loc;exact .cons (by rw[I.ok.kind];decide) hf hn (Heap.get?_none_of_le (At I.ok.bsz I.ok.above)) I.funs
theorem Inv.stkSub(I:Inv X pins vl σ H s):∀b∈HW X.stack,b∈X.env.locals::X.fs:=λb hb=>by
 rcases I.ok.stk with e | ⟨e,hf⟩
 . rw[e] at hb;exact Aw _ hb
 . rw[e] at hb;unfold HW at hb
   rwa [Ec,hf] at hb
theorem Inv.stkSo(I:Inv X pins vl σ H s):∀b∈HW X.stack,H.so b:=λb hb=>by
 rcases Ag.mp (I.stkSub b hb) with e | hb
 . rw[e];exact I.free
 . obtain⟨n,o,e⟩:=I.ok.frf b hb;exact I.base.so b o e n λz=>(I.ok.exf b z).2.2.1 hb
theorem Inv.step{g':Array GenState}{t':Nat}{d':Drawn}{ch:List Addr}(I:Inv X pins vl σ H s)
 (hch:∀b∈ch,(b∈X.ex\/X.s₀.heap.objs.size<=b)/\b≠X.env.locals/\(∀x c,X.env.cells.lookup x=some c->c≠b)/\∀p∈X.pn++pins,p.1≠b)
 (im:Im s.heap H h' H') (so:∀b o,b ∉ ch->s.heap.get? b=some o->H.so b->H'.so b)
 (keep:∀b o,b≠X.env.locals->b ∉ X.fs->b ∉ ch->s.heap.get? b=some o->H.so b->h'.get? b=some o)
 (slot:∀b o,b≠X.env.locals->b∈X.fs->b ∉ ch->s.heap.get? b=some o->H.so b->∃sl,h'.get? b=some {o with slots:=sl})
 (ns:∀m,s.heap.Ns X.env.locals m->h'.Ns X.env.locals m) (hok:HOk X.ev h' H') (hg:AllBare g'):
 Inv X pins vl σ H' {s with heap:=h',gens:=g',drawn:=d',toks:=t'}:=by
 have neL:∀b o,X.s₀.heap.get? b=some o->b≠X.env.locals:=λb o e=>Ba (CD (As e) I.ok.above);have neC:∀b o,X.s₀.heap.get? b=some o->b ∉ X.ex->b ∉ ch:=λb o e hx hb=>by
  rcases(hch b hb).1 with z | z
  . exact hx z
  . have:=As e;lia
 have cellK:∀x c,X.env.cells.lookup x=some c->∀v,s.heap.IsCell c v->h'.IsCell c v:=λx c e v ⟨o,ho,hd⟩=>by
  have nch:c ∉ ch:=λz=>(hch c z).2.2.1 x c e rfl;by_cases hc:c∈X.fs
  . obtain⟨sl,q⟩:=slot c o (I.cne x c e) hc nch ho (I.cell x c e).2;exact⟨_,q,hd⟩
  . exact⟨o,keep c o (I.cne x c e) hc nch ho (I.cell x c e).2,hd⟩
 refine⟨I.ok,I.os,hg,⟨I.base.im.trans im,λb o e n hb hx=>?_,λb o e n hb hx=>?_,λb o e n hx=>?_⟩,?_,λp hp=>(I.val p hp).im im,λx c e=>⟨?_,?_⟩,?_,λp hp=>?_,hok,I.len⟩
 . exact keep b o (neL b o e) hb (neC b o e hx) (I.base.keep b o e n hb hx) (I.base.so b o e n hx)
 . obtain⟨sl,e1⟩:=I.base.slot b o e n hb hx;obtain⟨sl',e2⟩:=slot b _ (neL b o e) hb (neC b o e hx) e1 (I.base.so b o e n hx);exact⟨sl',e2⟩
 . obtain⟨sl,e1⟩:=I.base.any e n hx;exact so b _ (neC b o e hx) e1 (I.base.so b o e n hx)
 . obtain⟨m,hn,hl⟩:=I.loc;refine⟨m,ns m hn,λi x v e1 e2 e3=>?_⟩;obtain⟨u,r,l⟩:=hl i x v e1 e2 e3;refine⟨u,r.im im,?_⟩;rcases l with l | ⟨k,c,e,z⟩
   . exact .inl l
   . exact .inr ⟨k,c,e,cellK x c e _ z⟩
 . obtain⟨v,z⟩:=(I.cell x c e).1;exact⟨v,cellK x c e v z⟩
 . obtain⟨v,o,z,_⟩:=(I.cell x c e).1;exact so c o (λq=>(hch c q).2.2.1 x c e rfl) z (I.cell x c e).2
 . obtain⟨m,⟨o,_,_,z,_⟩,_⟩:=I.loc;exact so _ o (λq=>(hch _ q).2.1 rfl) z I.free
 . obtain⟨e,n,ne,nf,d⟩:=I.pin p hp;have nc:=λz=>(hch p.1 z).2.2.2 p hp rfl;exact⟨keep p.1 p.2 ne nf nc e n,so _ _ nc e n,ne,nf,d⟩
structure Upd(H H':Hx)(h h':Heap):Prop where
 im:Im h H h' H'
 keep:∀b o,h.get? b=some o->H.so b->h'.get? b=some o
 so:∀b,H.so b->H'.so b
theorem Inv.upd{t':Nat}(I:Inv X pins vl σ H s)(u:Upd H H' s.heap h')(hok:HOk X.ev h' H'):Inv X pins vl σ H' {s with heap:=h',toks:=t'}:=
 I.step (g':=s.gens) (d':=s.drawn) (ch:=[]) nofun u.im (λb _ _ _ n=>u.so b n) (λb o _ _ _ e n=>u.keep b o e n) (λb o _ _ _ e n=>⟨o.slots,u.keep b o e n⟩) (λm ⟨o,es,ep,ho,r⟩=>⟨o,es,ep,u.keep _ o ho I.free,r⟩) hok I.bare
theorem Inv.call{s':Shared}{ch:List Addr}(I:Inv X pins vl σ H s)(ho:s'.os=s.os)(u:Un (HW X.stack) ch H H' s.heap s'.heap)(hok:HOk X.ev s'.heap H')(hg:AllBare s'.gens)
 (hch:∀b∈ch,(b∈X.ex\/X.s₀.heap.objs.size<=b)/\b≠X.env.locals/\(∀x c,X.env.cells.lookup x=some c->c≠b)/\∀p∈X.pn++pins,p.1≠b):Inv X pins vl σ H' s':=by
 obtain⟨h',g',d',t',o'⟩:=s';cases(show o'=s.os from ho);exact I.step (ch:=ch) hch u.im (λb o hc e n=>u.so b o e n hc) (λb o hL hb hc e n=>u.keep b o e n (λz=>(Ag.mp (I.stkSub b z)).elim hL hb) hc) (λb o _ _ hc e n=>u.any e n hc)
  (λm ⟨o,es,ep,ho,r⟩=>let⟨sl,e⟩:=u.any ho I.free λz=>(hch _ z).2.1 rfl;⟨_,es,ep,e,r⟩) hok hg
theorem Upd.kept(k:∀b u,s.heap.get? b=some u->h'.get? b=some u):Upd H H s.heap h':=⟨λa o e f=>⟨k a o e,f⟩,λb o e _=>k b o e,λ_ n=>n⟩
theorem HOk.kept{G:Ev}{h:Heap}(x:HOk G h H)(k:∀b u,h.get? b=some u->h'.get? b=some u):HOk G h' H:=
 ⟨λa o e=>(x.at' a o e).stay (λb u e f=>⟨k b u e,f⟩) (λb u _ q=>k b u q) λ_ z=>z,λb y e=>let⟨z,o,q⟩:=x.ow b y e;⟨z,o,k b o q⟩⟩
theorem Inv.kept{t':Nat}(I:Inv X pins vl σ H s)(k:∀b u,s.heap.get? b=some u->h'.get? b=some u):Inv X pins vl σ H {s with heap:=h',toks:=t'}:=I.upd (.kept k) (I.hok.kept k)
theorem Inv.tok(I:Inv X pins vl σ H s)(t:Nat):Inv X pins vl σ H {s with toks:=t}:=I.kept λ_ _ e=>e
theorem Inv.new{t':Nat}{ob:Obj}(I:Inv X pins vl σ H s)(hf:ob.isFreed=false):Inv X pins vl σ H {s with heap:=s.heap.push ob,toks:=t'}:=
 I.kept λ_ _ e=>Ad _ e
theorem Inv.laid{t':Nat}(I:Inv X pins vl σ H s)(k:∀b u,s.heap.get? b=some u->h'.get? b=some u)(hp:s.heap.objs.size<=a)(new:OkO X.ev h' (H.to (put H.hd a o)) a o):Inv X pins vl σ (H.to (put H.hd a o)) {s with heap:=h',toks:=t'}:=by
 have f:=I.hok.fresh hp;have pn:∀{b},b≠a->H.hd b=none->put H.hd a o b=none:=λn e=>(FR n).trans e;have im:Im s.heap H h' (H.to (put H.hd a o)):=λb u e q=>⟨k b u e,pn (by have:=As e;lia) q.1,q.2⟩;refine I.upd ⟨im,λb u e _=>k b u e,λb n=>⟨pn (by rintro rfl;cases f.2.symm.trans n.2) n.1,n.2⟩⟩ ⟨λb o' e=>?_,λb y e=>?_⟩
 . by_cases ne:b=a
   . subst ne;cases(put_same.symm.trans e);exact new
   . exact(I.hok.at' b o' ((FR ne).symm.trans e)).stay im (λc u _ q=>k c u q) λ_ z=>z
 . obtain⟨z,v,q⟩:=I.hok.ow b y e;exact⟨pn (by have:=As q;lia) z,v,k b v q⟩
theorem Inv.write{t':Nat}(I:Inv X pins vl σ H s)(hx:∃o',H.hd x=some o')(he:e=x\/H.ow e=some x)(sb:AU e s.heap h')(th:∃v,h'.get? e=some v)(new:OkO X.ev h' (H.to (put H.hd x o)) x o):Inv X pins vl σ (H.to (put H.hd x o)) {s with heap:=h',toks:=t'}:=by
 obtain⟨o',hx⟩:=hx;have ne:∀b,H.hd b=none->H.ow b≠some x->b≠e:=λb n m z=>by
  subst z;rcases he with z | z
  . rw[z,hx] at n;cases n
  . exact m z
 have nx:∀b,H.hd b=none->b≠x:=λb n z=>by rw[z,hx] at n;cases n
 have nxo:∀y,H.ow x≠some y:=λy z=>by have:=(I.hok.ow x y z).1;rw[hx] at this;cases this
 have pn:∀{b},H.hd b=none->put H.hd x o b=none:=λn=>(FR (nx _ n)).trans n;have im:Im s.heap H h' (H.to (put H.hd x o)):=λb u q f=>⟨(sb.2 b (ne b f.1 (by rw[f.2];exact nofun))).trans q,pn f.1,f.2⟩;refine I.upd ⟨im,λb u q n=>(sb.2 b (ne b n.1 (λz=>by rw[n.2] at z;cases z;exact nxo _ n.2))).trans q,λb n=>⟨pn n.1,n.2⟩⟩ ⟨λb q eb=>?_,λb y q=>?_⟩
 . by_cases nb:b=x
   . subst nb;cases(put_same.symm.trans eb);exact new
   . have eb:=(FR nb).symm.trans eb;refine(I.hok.at' b q eb).stay im (λc u hc z=>(sb.2 c ?_).trans z) λ_ z=>z;rintro rfl;rcases hc with z | z
     . subst z;rcases he with z | z
       . exact nb z
       . have:=(I.hok.ow _ _ z).1;rw[eb] at this;cases this
     . rcases he with z' | z'
       . rw[z'] at z;exact nxo _ z
       . rw[z'] at z;cases z;exact nb rfl
 . obtain⟨z,v,q⟩:=I.hok.ow b y q;exact⟨pn z,Th.same sb th b v q⟩
theorem Im.re{h:Heap}{o o':OD}(e:H.hd a=some o):Im h H h (H.to (put H.hd a o')):=λb u q f=>⟨q,(FR λz=>by cases e.symm.trans (z ▸ f.1)).trans f.1,f.2⟩
theorem Inv.re{o':OD}(I:Inv X pins vl σ H s)(e:H.hd a=some o)(new:OkO X.ev s.heap (H.to (put H.hd a o')) a o'):Inv X pins vl σ (H.to (put H.hd a o')) s:=by
 have pn:∀{b},H.hd b=none->put H.hd a o' b=none:=λn=>(FR λz=>by cases e.symm.trans (z ▸ n)).trans n;refine I.upd (h':=s.heap) (t':=s.toks) ⟨.re e,λ_ _ e _=>e,λb n=>⟨pn n.1,n.2⟩⟩ ⟨λb q eb=>?_,λb y q=>let⟨z,r⟩:=I.hok.ow b y q;⟨pn z,r⟩⟩;by_cases nb:b=a
 . subst nb;cases(put_same.symm.trans eb);exact new
 . exact(I.hok.at' b q ((FR nb).symm.trans eb)).stay (.re e) (λ_ _ _ q=>q) λ_ z=>z
theorem Inv.less{hd:Hd}(I:Inv X pins vl σ H s)(l:Le hd H.hd):Inv X pins vl σ (H.to hd) s:=by have im:Im s.heap H s.heap (H.to hd):=λb u q f=>⟨q,l.none f.1,f.2⟩;exact I.upd (h':=s.heap) (t':=s.toks) ⟨im,λ_ _ e _=>e,λb n=>⟨l.none n.1,n.2⟩⟩ ⟨λa o e=>(I.hok.at' a o (l a o e)).stay im (λ_ _ _ q=>q) λ_ z=>z,λb y e=>⟨l.none (I.hok.ow b y e).1,(I.hok.ow b y e).2⟩⟩
noncomputable abbrev Hx.owns(H:Hx)(l:List Addr):Hx:=⟨H.hd,λb=>if b∈l then some b else H.ow b⟩
theorem Inv.born{t':Nat}(l:List Addr)(I:Inv X pins vl σ H s)(k:∀b u,s.heap.get? b=some u->h'.get? b=some u)(hl:∀b∈l,s.heap.objs.size<=b/\∃o,h'.get? b=some o):Inv X pins vl σ (H.owns l) {s with heap:=h',toks:=t'}:=by
 have nl:∀{b u},s.heap.get? b=some u->b ∉ l:=λe z=>by have:=As e;have:=(hl _ z).1;lia
 have on:∀{b y},(H.owns l).ow b=some y->(b∈l/\y=b)\/H.ow b=some y:=λ{b y}(e:(if b∈l then some b else H.ow b)=some y)=>by split at e<;>simp_all
 have im:Im s.heap H h' (H.owns l):=λb u e q=>⟨k b u e,q.1,(if_neg (nl e)).trans q.2⟩;refine I.upd ⟨im,λb u e _=>k b u e,λb n=>⟨n.1,?_⟩⟩ ⟨λa o e=>?_,λb y e=>?_⟩
 . show(if b∈l then some b else H.ow b)=some b
   split
   . rfl
   . exact n.2
 . refine(I.hok.at' a o e).stay im (λc u _ q=>k c u q) λb z=>?_;exact(if_neg (nl (I.hok.ow _ _ z).2.choose_spec)).trans z
 . rcases on e with⟨m,_⟩ | z
   . exact⟨(I.hok.fresh (hl b m).1).1,(hl b m).2⟩
   . obtain⟨z,o,q⟩:=I.hok.ow b y z;exact⟨z,o,k b o q⟩
noncomputable def FpOk(X:Cx)(pins:List (Addr×Obj))(H:Hx)(b:Addr):Prop:=
 H.so b/\b≠X.env.locals/\b ∉ X.fs/\(b∈X.ex\/X.s₀.heap.objs.size<=b)/\(∀x c,X.env.cells.lookup x=some c->c≠b)/\∀p∈X.pn++pins,p.1≠b
theorem Inv.fpOk{b:Addr}(I:Inv X pins vl σ H s)(hb:s.heap.objs.size<=b)(hn:H'.so b):FpOk X pins H' b:=
 ⟨hn,by have:=I.lt;lia,I.nofs hb,.inr (by have:=I.sz;lia),λx c e z=>by have:=(I.cell x c e).1.choose_spec.lt;lia,λp hp z=>by have:=As (I.pin p hp).1;lia⟩
theorem Inv.turned{t':Nat}{fp:List Addr}(I:Inv X pins vl σ H s)(hf:∀b∈fp,FpOk X pins H b)(k:∀b u,b ∉ fp->s.heap.get? b=some u->h'.get? b=some u)(ht:∀b∈fp,∃o,h'.get? b=some o):Inv X pins vl σ H {s with heap:=h',toks:=t'}:=by
 have nf:∀b,H.fr b->b ∉ fp:=λb f z=>by cases f.2.symm.trans (hf b z).1.2
 have im:Im s.heap H h' H:=λb u e f=>⟨k b u (nf b f) e,f⟩;have th:Th s.heap h':=λb o e=>if z:b∈fp then ht b z else⟨o,k b o z e⟩
 refine I.step (g':=s.gens) (d':=s.drawn) (ch:=fp) (λb hb=>let⟨_,h1,_,h3,h4,h5⟩:=hf b hb;⟨h3,h1,h4,h5⟩) im (λ_ _ _ _ n=>n) (λb o _ _ hc e _=>k b o hc e) (λb o _ _ hc e _=>⟨o.slots,k b o hc e⟩)
  (λm ⟨o,es,ep,ho,r⟩=>⟨o,es,ep,k _ o (λz=>(hf _ z).2.1 rfl) ho,r⟩) ⟨λa o e=>(I.hok.at' a o e).stay im (λc u hc q=>k c u (λz=>?_) q) λ_ z=>z,λb y e=>let⟨z,o,q⟩:=I.hok.ow b y e;⟨z,th b o q⟩⟩ I.bare
 obtain⟨n1,n2⟩:=(hf c z).1;rcases hc with hc | hc
 . rw[hc,e] at n1;cases n1
 . rw[n2] at hc;cases hc;rw[e] at n1;cases n1
noncomputable def Hx.drop(H:Hx)(fp:List Addr):Hx:=⟨H.hd,λb=>if b∈fp then none else H.ow b⟩
theorem Inv.ended{t':Nat}{fp:List Addr}(I:Inv X pins vl σ H s)(hf:∀b∈fp,FpOk X pins H b)(k:∀b u,b ∉ fp->s.heap.get? b=some u->h'.get? b=some u):Inv X pins vl σ (H.drop fp) {s with heap:=h',toks:=t'}:=by
 have nf:∀b,H.fr b->b ∉ fp:=λb f z=>by cases f.2.symm.trans (hf b z).1.2
 have on:∀{b y},(H.drop fp).ow b=some y->b ∉ fp/\H.ow b=some y:=λ{b y}(e:(if b∈fp then none else H.ow b)=some y)=>by split at e<;>simp_all
 have no:∀{b y},b ∉ fp->H.ow b=y->(H.drop fp).ow b=y:=λn e=>(if_neg n).trans e;have im:Im s.heap H h' (H.drop fp):=λb u e f=>⟨k b u (nf b f) e,f.1,no (nf b f) f.2⟩;have nx:∀{a o c},H.hd a=some o->c=a\/H.ow c=some a->c ∉ fp:=λe hc z=>by
  obtain⟨n1,n2⟩:=(hf _ z).1;rcases hc with hc | hc
  . rw[hc,e] at n1;cases n1
  . rw[n2] at hc;cases hc;rw[e] at n1;cases n1
 exact I.step (g':=s.gens) (d':=s.drawn) (ch:=fp) (λb hb=>let⟨_,h1,_,h3,h4,h5⟩:=hf b hb;⟨h3,h1,h4,h5⟩) im (λ_ _ hc _ n=>⟨n.1,no hc n.2⟩) (λb o _ _ hc e _=>k b o hc e) (λb o _ _ hc e _=>⟨o.slots,k b o hc e⟩)
  (λm ⟨o,es,ep,ho,r⟩=>⟨o,es,ep,k _ o (λz=>(hf _ z).2.1 rfl) ho,r⟩) ⟨λa o e=>(I.hok.at' a o e).stay im (λc u hc q=>k c u (nx e hc) q) λb z=>no (nx e (.inr z)) z,λb y e=>let⟨n,e⟩:=on e;let⟨z,o,q⟩:=I.hok.ow b y e;⟨z,o,k b o n q⟩⟩ I.bare
theorem Inv.sub{vl':List (D×Value)}(I:Inv X pins vl σ H s)(h:∀p∈vl',p∈vl):Inv X pins vl' σ H s:=⟨I.ok,I.os,I.bare,I.base,I.loc,λp hp=>I.val p (h p hp),I.cell,I.free,I.pin,I.hok,I.len⟩
theorem Inv.tl{p:D×Value}(I:Inv X pins (p::vl) σ H s):Inv X pins vl σ H s:=I.sub λ_ h=>Aw _ h
theorem Inv.hv(I:Inv X pins ((d,u)::vl) σ H s):Rv X.ev s.heap H d u:=I.val _ AA
theorem Inv.cons(I:Inv X pins vl σ H s)(r:Rv X.ev s.heap H d u):Inv X pins ((d,u)::vl) σ H s:=⟨I.ok,I.os,I.bare,I.base,I.loc,λp hp=>(Ag.mp hp).elim (λz=>by rw[z];exact r) (I.val p),I.cell,I.free,I.pin,I.hok,I.len⟩
theorem Inv.pins_of{pins':List (Addr×Obj)}(I:Inv X pins vl σ H s)(h:∀p∈pins',s.heap.get? p.1=some p.2/\H.so p.1/\p.1≠X.env.locals/\p.1 ∉ X.fs/\∀v,p.2.data≠ .cell v):Inv X pins' vl σ H s:=
 ⟨I.ok,I.os,I.bare,I.base,I.loc,I.val,I.cell,I.free,λp hp=>(Aq.mp hp).elim (λz=>I.pin p (A1 _ z)) (h p),I.hok,I.len⟩
end
noncomputable abbrev DK:=D->Hd->Prop
noncomputable abbrev G9:=Str->Hd->Prop
noncomputable abbrev TD:=Sd->Hd->DK->G9->Prop
noncomputable abbrev G1:=Sd->Hd->(Bool->Hd->Prop)->G9->Prop
noncomputable abbrev G6:=Sd->Hd->(List D->Hd->Prop)->G9->Prop
noncomputable abbrev XR:=Sd->Str->Hd->Prop
noncomputable abbrev GV:XR:=λ_ _ _=>False
section
variable(X:Cx)(pins:List (Addr×Obj))(vl:List (D×Value))(σ:Sd)
inductive EP(k:DK)(u:Value)(s':Shared):Prop
 | mk (d:D) (H':Hx) (i:Inv X pins ((d,u)::vl) σ H' s') (q:k d H'.hd)
inductive TP(k:Bool->Hd->Prop)(b:Bool)(s':Shared):Prop
 | mk (H':Hx) (i:Inv X pins vl σ H' s') (q:k b H'.hd)
inductive AP(k:List D->Hd->Prop)(us:List Value)(s':Shared):Prop
 | mk (ds:List D) (H':Hx) (i:Inv X pins (ds.zip us++vl) σ H' s') (l:ds.length=us.length) (q:k ds H'.hd)
end
section
variable(X:Cx)(xr:XR)
noncomputable def TA(e:Expr)(T:TD):Prop:=∀{pins vl s σ H k ex},Inv X pins vl σ H s->T σ H.hd k ex->(∀c h,ex c h->xr σ c h)->X.W (eval e X.env) (EP X pins vl σ k) s
structure DE(e:Expr)(T:TD):Prop where
 mk::
 run:TA X xr e T
instance {X:Cx} {xr:XR} {e:Expr} {T:TD}:CoeFun (DE X xr e T) λ_=>TA X xr e T:=⟨DE.run⟩
noncomputable def T4(e:Expr)(T:G1):Prop:=∀{pins vl s σ H k ex},Inv X pins vl σ H s->T σ H.hd k ex->(∀c h,ex c h->xr σ c h)->X.W (isTrue e X.env (eval e X.env)) (TP X pins vl σ k) s
structure DT(e:Expr)(T:G1):Prop where
 mk::
 run:T4 X xr e T
instance {X:Cx} {xr:XR} {e:Expr} {T:G1}:CoeFun (DT X xr e T) λ_=>T4 X xr e T:=⟨DT.run⟩
noncomputable def Tz(e:Expr)(T:G1):Prop:=∀(wh:Sem Value){pins vl s σ H k ex},Inv X pins vl σ H s->T σ H.hd k ex->(∀c h,ex c h->xr σ c h)->X.W (isTrue e X.env wh) (TP X pins vl σ k) s
structure DW(e:Expr)(T:G1):Prop where
 mk::
 run:Tz X xr e T
instance {X:Cx} {xr:XR} {e:Expr} {T:G1}:CoeFun (DW X xr e T) λ_=>Tz X xr e T:=⟨DW.run⟩
noncomputable def TB(es:List Expr)(T:G6):Prop:=∀(pos:Pos){pins vl s σ H k ex},Inv X pins vl σ H s->T σ H.hd k ex->(∀c h,ex c h->xr σ c h)->X.W (spliced (backTo pos (Ai es X.env))) (AP X pins vl σ k) s
structure DA(es:List Expr)(T:G6):Prop where
 mk::
 run:TB X xr es T
instance {X:Cx} {xr:XR} {es:List Expr} {T:G6}:CoeFun (DA X xr es T) λ_=>TB X xr es T:=⟨DA.run⟩
end
noncomputable abbrev GJ:=D->D->Hd->DK->Prop
noncomputable abbrev It:=List D->Hd->DK->Prop
noncomputable def GS(X:Cx)(o:Value->Value->Sem Value)(f:GJ):Prop:=∀{pins vl s σ H k x u y w},Inv X pins ((y,w)::(x,u)::vl) σ H s->f x y H.hd k->X.W (o u w) (EP X pins vl σ k) s
noncomputable def IM(X:Cx)(o:List Value->Sem Value)(f:It):Prop:=∀{pins vl s σ H k ds us},Inv X pins vl σ H s->Rvs X.ev s.heap H ds us->f ds H.hd k->X.W (o us) (EP X pins vl σ k) s
theorem FO{α:Type}{t:Sem α}{Q Q':α->Shared->Prop}{M:Model}{A:Ax}{E:Value->Shared->Prop}{s:Shared}(h:wpAny M A t Q E s)(hQ:∀a s,Q a s->Q' a s):wpAny M A t Q' E s:=AO h hQ λ_ _ x=>x
section
variable{X:Cx}{pins:List (Addr×Obj)}{vl:List (D×Value)}{σ:Sd}{H:Hx}{s:Shared}{d:D}{u:Value}{k:DK}
theorem Inv.ret(I:Inv X pins vl σ H s)(r:Rv X.ev s.heap H d u)(q:k d H.hd):EP X pins vl σ k u s:=⟨d,H,I.cons r,q⟩
theorem Inv.int{i:Int}(I:Inv X pins vl σ H s)(q:k (.int i) H.hd):EP X pins vl σ k (.int i s.toks) {s with toks:=s.toks+1}:=(I.tok _).ret (.int i _) q
theorem Inv.str{x:Str}(I:Inv X pins vl σ H s)(q:k (.str x) H.hd):EP X pins vl σ k (.str x s.toks) {s with toks:=s.toks+1}:=(I.tok _).ret (.str x _) q
theorem Inv.bl{b:Bool}(I:Inv X pins vl σ H s)(q:k (.bl b) H.hd):EP X pins vl σ k (.bool b) s:=I.ret (.bl b) q
theorem PW{G:Ev}{h:Heap}{ds:List D}{us:List Value}(l:ds.length=us.length)(f:∀p∈ds.zip us,Rv G h H p.1 p.2):Rvs G h H ds us:=Rvs.iff.2 ⟨l,λ_ d u a b=>f (d,u) (AD (Cu.2 ⟨a,b⟩))⟩
theorem Inv.vals{ds:List D}{us:List Value}(I:Inv X pins (ds.zip us++vl) σ H s)(e:ds.length=us.length):Rvs X.ev s.heap H ds us:=PW e λp hp=>I.val p (A1 _ hp)
theorem Inv.dup{p q:D×Value}(I:Inv X pins (p::q::vl) σ H s):Inv X pins (p::q::p::vl) σ H s:=I.sub (by simp+contextual)
theorem Inv.out{ds:List D}{us:List Value}(I:Inv X pins (ds.zip us++vl) σ H s):Inv X pins vl σ H s:=I.sub λ_ h=>Am _ h
end
theorem P6{A B:Prop}(h:B):if false=true then A else B:=by simpa using h
theorem P7{A B:Prop}(h:A):if true=true then A else B:=by simpa using h
noncomputable def IB:Sd->Nat->Option D
 | [],_=>none
 | x::_,0=>x
 | _::r,i+1=>IB r i
theorem Nu:∀{σ:Sd}{i:Nat}{d:D},IB σ i=some d->σ[i]?=some (some d)
 | _::_,0,_,e=>by rw[List.getElem?_cons_zero];exact congrArg some e
 | _::r,i+1,_,e=>by rw[List.getElem?_cons_succ];exact Nu (σ:=r) e
noncomputable def FN(i:Nat):TD:=λσ hd k _=>match IB σ i with | some d=>k d hd | none=>False
noncomputable def dC(d:D):TD:=λ_ hd k _=>k d hd
noncomputable def FJ(f:GJ)(Ta Tb:TD):TD:=λσ hd k e=>Ta σ hd (λx h1=>Tb σ h1 (λy h2=>f x y h2 k) e) e
noncomputable def Mx(f g:GJ)(Ta Tb Tc:TD):TD:=λσ hd k e=>Ta σ hd (λx h1=>Tb σ h1 (λy h2=>f x y h2 λz h3=>match z with | .bl c=>(bif c then Tc σ h3 (λw h4=>g y w h4 k) e else k (.bl false) h3) | _=>False) e) e
noncomputable def Gl(X:Cx)(x:Str):Prop:=X.env.kindOf x=some .globalImplicit
section
variable{X:Cx}{xr:XR}{a b c:Expr}{Ta Tb Tc:TD}{pos:Pos}{f g:GJ}
theorem dv(i:Nat){x:Str}(hN:X.N[i]?=some x:=by rfl)(hv:MT X.env.scope x:=by first | exact Or.inl rfl | exact Or.inr (Or.inl rfl) | exact Or.inr (Or.inr rfl))(hd:(x==("__debug__":Str))=false:=by decide)(hcd:(x==("__classdict__":Str))=false:=by decide):DE X xr (.Name x pos) (FN i):= .mk<| by
 intro pins vl s σ H k _ I h _;unfold FN at h
 split at h
 . rename_i d q;obtain⟨m,hn,hl⟩:=I.loc;obtain⟨u,r,l⟩:=hl i x d hN (Nu q) hv;have fin:=I.ret r h;rcases l with⟨hk,hm⟩ | ⟨hk,c,hc,hcell⟩
   . exact wpAny_Name (wpAny_loadName_local I.ok.kind hk hn hm fin) hd
   . rcases hk with hk | hk
     . exact wpAny_Name (wpAny_loadName_cell I.ok.kind hk hc hcell fin) hd
     . exact wpAny_Name (wpAny_loadName_free I.ok.kind hk hc hcell fin hcd) hd
 . exact h.elim
theorem Vq{i j}:DE X xr (.Constant (.int i) j pos) (dC (.int i)):= .mk λI h _=>wpAny_Constant_int (I.int h)
theorem Up{i j}:DE X xr (.Constant (.bool i) j pos) (dC (.bl i)):= .mk λI h _=>Constant_bool (I.bl h)
theorem UG{j}:DE X xr (.Constant .none j pos) (dC .non):= .mk λI h _=>Constant_none (I.ret .non h)
theorem UL{i j}:DE X xr (.Constant (.str i) j pos) (dC (.str i)):= .mk λI h _=>Calls.Constant_str (I.str h)
theorem MD{pins vl s σ H x u}{pos:Pos}{Q E:Value->Shared->Prop}(I:Inv X pins vl σ H s)(hg:Gl X x)(hm:X.mg x=some u)(h:Q u s)(hd:(x==("__debug__":Str))=false:=by decide):wpAny (model X.prog X.w) X.A (eval (.Name x pos) X.env) Q E s:=
 Eu I.ok.kind hg (Calls.loadGlobal_global (by rw[I.ok.glob];exact I.ok.mod.glob.keeps I.bk) hm h) hd
theorem Js{pins vl s σ H x u}{pos:Pos}{Q E:Value->Shared->Prop}(I:Inv X pins vl σ H s)(hg:Gl X x)(hm:X.mg x=none)(hv:AN x=some u)(h:Q u s)(hn:x≠"__name__":=by decide)(hd:(x==("__debug__":Str))=false:=by decide):
 wpAny (model X.prog X.w) X.A (eval (.Name x pos) X.env) Q E s:=by
 obtain⟨mb,h1,h2⟩:=I.ok.mod.blt;exact Eu I.ok.kind hg (Calls.loadGlobal_builtin (by rw[I.ok.glob];exact I.ok.mod.glob.keeps I.bk) hm (by rw[I.ok.blt];exact h1.keeps I.bk) ((h2 x hn).trans hv) h) hd
theorem Lu{x:Str}{n:String}(hg:Gl X x)(hm:X.mg x=none)(hv:AN x=some (.type n))(hn:x≠"__name__":=by decide)(hd:(x==("__debug__":Str))=false:=by decide):DE X xr (.Name x pos) (dC (.ty n)):= .mk λI h _=>Js I hg hm hv (I.ret (.ty n) h) hn hd
theorem WR{x:Str}{v:Int}(hg:Gl X x)(hm:∃t,X.mg x=some (.int v t))(hd:(x==("__debug__":Str))=false:=by decide):DE X xr (.Name x pos) (dC (.int v)):= .mk λI h _=>let⟨t,e⟩:=hm;MD I hg e (I.ret (.int v t) h) hd
theorem KH{op:Operator}(ho:GS X (binaryOp op) f)(ha:DE X xr a Ta)(hb:DE X xr b Tb):DE X xr (.BinOp a op b pos) (FJ f Ta Tb):= .mk λI h hx=>wpAny_BinOp (FO (ha I h hx) λ_ _ ⟨_,_,I1,q⟩=>FO (hb I1 q hx) λ_ _ ⟨_,_,I2,q⟩=>ho I2 q)
theorem Kf{op:CmpOp}(ho:GS X (BC op) f)(ha:DE X xr a Ta)(hb:DE X xr b Tb)(hm:behindInMarks op b=false):DE X xr (.Compare a [op] [b] pos) (FJ f Ta Tb):= .mk λI h hx=>wpAny_Compare1 (FO (ha I h hx) λ_ _ ⟨_,_,I1,q⟩=>FO (hb I1 q hx) λ_ _ ⟨_,_,I2,q⟩=>ho I2 q) hm
theorem Iy(b:Expr){op:CmpOp}(h:op≠ .In:=by decide)(h2:op≠ .NotIn:=by decide):behindInMarks op b=false:=by cases op<;>cases b<;>simp[behindInMarks] at* <;>rfl
theorem Yr{op op':CmpOp}(ho:GS X (BC op) f)(ho':GS X (BC op') g)(ha:DE X xr a Ta)(hb:DE X xr b Tb)(hc:DE X xr c Tc)(hm:lastMarks [op,op'] [b,c]=false:=by with_unfolding_all rfl):DE X xr (.Compare a [op,op'] [b,c] pos) (Mx f g Ta Tb Tc):= .mk λI h hx=>
 Compare_chain (FO (ha I h hx) λ_ _ ⟨x,_,I1,q⟩=>chain_link (FO (hb I1 q hx) λ_ _ ⟨y,_,I2,q⟩=>FO (ho I2.dup q) λ_ _ ⟨z,_,I3,q⟩=>by
  cases z with
  | bl c=>
   cases I3.hv.b;refine AR ?_;cases c with
   | false=>exact P6 (I3.tl.tl.bl q)
   | true=>exact P7 (chain_last (FO (hc I3.tl q hx) λ_ _ ⟨_,_,I4,q⟩=>ho' I4 q))
  | _=>exact q.elim)) hm
theorem DW.t{e:Expr}{T:G1}(h:DW X xr e T):DT X xr e T:= .mk (h _)
noncomputable def Hp(k:Bool->Hd->Prop)(d:D)(h:Hd):Prop:=match d with
 | .non=>k false h
 | .bl b=>k b h
 | .int i=>k (i !=0) h
 | .str x=>x.length<=An/\k ((x.length:Int) !=0) h
 | .tup xs=>k (!xs.isEmpty) h
 | .lst xs=>k (!xs.isEmpty) h
 | .ref a=>(match h a with
  | some (.lst xs)=>k (!xs.isEmpty) h
  | some (.dct _ ks _)=>k (!ks.isEmpty) h
  | _=>False)
 | _=>False
noncomputable def Gc(T:TD):G1:=λσ hd k e=>T σ hd (Hp k) e
noncomputable def F_(T:TD):G1:=λσ hd k e=>T σ hd (λd h=>match d with | .bl b=>k b h | _=>False) e
noncomputable def KA(t u:G1):G1:=λσ hd k e=>t σ hd (λc h1=>bif c then u σ h1 k e else k false h1) e
noncomputable def OH(t u:G1):G1:=λσ hd k e=>t σ hd (λc h1=>bif c then k true h1 else u σ h1 k e) e
noncomputable def Gj(t:G1):G1:=λσ hd k e=>t σ hd (λc h1=>k (!c) h1) e
noncomputable def Uj(Ta Tb:TD):TD:=λσ hd k e=>Ta σ hd (λx h1=>match x with | .bl c=>(bif c then Tb σ h1 k e else k (.bl false) h1) | _=>False) e
noncomputable def OG(Ta Tb:TD):TD:=λσ hd k e=>Ta σ hd (λx h1=>match x with | .bl c=>(bif c then k (.bl true) h1 else Tb σ h1 k e) | _=>False) e
noncomputable def Um(Ta:TD):TD:=λσ hd k e=>Ta σ hd (λx h1=>match x with | .bl c=>k (.bl (!c)) h1 | _=>False) e
noncomputable def Hu(U:G1)(Ta Tb:TD):TD:=λσ hd k e=>U σ hd (λc h1=>bif c then Ta σ h1 k e else Tb σ h1 k e) e
variable{Ua Ub:G1}{rest:List Expr}
theorem Jr{op:CmpOp}(ho:GS X (BC op) f)(ha:DE X xr a Ta)(hb:DE X xr b Tb)(hm:behindInMarks op b=false):DT X xr (.Compare a [op] [b] pos) (F_ (FJ f Ta Tb)):= .mk λI h hx=>
 wpAny_isTrue_Compare1 (FO (ha I h hx) λ_ _ ⟨_,_,I1,q⟩=>FO (hb I1 q hx) λ_ _ ⟨_,_,I2,q⟩=>FO (ho I2 q) λ_ _ ⟨z,H3,I3,q⟩=>by
  cases z with
  | bl c=>cases I3.hv.b;exact AR ⟨H3,I3.tl,q⟩
  | _=>exact q.elim) hm
theorem XZ{op op':CmpOp}(ho:GS X (BC op) f)(ho':GS X (BC op') g)(ha:DE X xr a Ta)(hb:DE X xr b Tb)(hc:DE X xr c Tc)(hm:lastMarks [op,op'] [b,c]=false:=by with_unfolding_all rfl):DT X xr (.Compare a [op,op'] [b,c] pos) (F_ (Mx f g Ta Tb Tc)):= .mk λI h hx=>
 isTrue_chain (FO (ha I h hx) λ_ _ ⟨x,_,I1,q⟩=>test_link (FO (hb I1 q hx) λ_ _ ⟨y,_,I2,q⟩=>FO (ho I2.dup q) λ_ _ ⟨z,_,I3,q⟩=>by
  cases z with
  | bl c=>
   cases I3.hv.b;refine AR ?_;cases c with
   | false=>exact P6 ⟨_,I3.tl.tl,q⟩
   | true=>exact P7 (test_last (FO (hc I3.tl q hx) λ_ _ ⟨_,_,I4,q⟩=>FO (ho' I4 q) λ_ _ ⟨z,H5,I5,q⟩=>by
    cases z with
    | bl c=>cases I5.hv.b;exact AR ⟨H5,I5.tl,q⟩
    | _=>exact q.elim))
  | _=>exact q.elim)) hm
theorem Ws(ha:DT X xr a Ua):DW X xr (.BoolOp .And [a] pos) Ua:= .mk λ_{_ _ _ _ _ _ _}I h hx=>isTrue_and (FO (ha I h hx) λc _ e=>by
 cases c with
 | true=>exact isTrue_and_nil e
 | false=>exact e)
theorem Wf(ha:DT X xr a Ua):DW X xr (.BoolOp .Or [a] pos) Ua:= .mk λ_{_ _ _ _ _ _ _}I h hx=>isTrue_or (FO (ha I h hx) λc _ e=>by
 cases c with
 | false=>exact isTrue_or_nil e
 | true=>exact e)
theorem We(ha:DT X xr a Ua)(hb:DW X xr (.BoolOp .And (b::rest) pos) Ub):DW X xr (.BoolOp .And (a::b::rest) pos) (KA Ua Ub):= .mk λwh{_ _ _ _ _ _ _}I h hx=>isTrue_and (FO (ha I h hx) λc _ ⟨_,I1,q⟩=>by
 cases c with
 | true=>exact hb wh I1 q hx
 | false=>exact⟨_,I1,q⟩)
theorem TI(ha:DT X xr a Ua)(hb:DW X xr (.BoolOp .Or (b::rest) pos) Ub):DW X xr (.BoolOp .Or (a::b::rest) pos) (OH Ua Ub):= .mk λwh{_ _ _ _ _ _ _}I h hx=>isTrue_or (FO (ha I h hx) λc _ ⟨_,I1,q⟩=>by
 cases c with
 | true=>exact⟨_,I1,q⟩
 | false=>exact hb wh I1 q hx)
theorem Va(ha:DT X xr a Ua):DT X xr (.UnaryOp .Not a pos) (Gj Ua):= .mk λ{_ _ _ _ _ k _}I h hx=>isTrue_not (FO (ha I h hx) λ_ _ ⟨_,i,q⟩=>⟨_,i,q⟩)
theorem UI{op}(ha:DE X xr a Ta):DE X xr (.BoolOp op [a] pos) Ta:= .mk λI h hx=>BoolOp_one (ha I h hx)
theorem Vn(ha:DE X xr a Ta)(hb:DE X xr (.BoolOp .And (b::rest) pos) Tb):DE X xr (.BoolOp .And (a::b::rest) pos) (Uj Ta Tb):= .mk λI h hx=>BoolOp_and (FO (ha I h hx) λ_ _ ⟨z,_,I1,q⟩=>by
 cases z with
 | bl c=>
  cases I1.hv.b;refine AR ?_;cases c with
  | true=>exact hb I1.tl q hx
  | false=>exact I1.tl.bl q
 | _=>exact q.elim)
theorem Uw(ha:DE X xr a Ta)(hb:DE X xr (.BoolOp .Or (b::rest) pos) Tb):DE X xr (.BoolOp .Or (a::b::rest) pos) (OG Ta Tb):= .mk λI h hx=>BoolOp_or (FO (ha I h hx) λ_ _ ⟨z,_,I1,q⟩=>by
 cases z with
 | bl c=>
  cases I1.hv.b;refine AR ?_;cases c with
  | true=>exact I1.tl.bl q
  | false=>exact hb I1.tl q hx
 | _=>exact q.elim)
theorem UH(ha:DE X xr a Ta):DE X xr (.UnaryOp .Not a pos) (Um Ta):= .mk λI h hx=>UnaryOp_ (FO (ha I h hx) λ_ _ ⟨z,_,I1,q⟩=>by
 cases z with
 | bl c=>cases I1.hv.b;exact not_of (AR (I1.tl.bl q))
 | _=>exact q.elim)
theorem Us(hc:DT X xr c Ua)(ha:DE X xr a Ta)(hb:DE X xr b Tb):DE X xr (.IfExp c a b pos) (Hu Ua Ta Tb):= .mk λI h hx=>wpAny_IfExp (FO (hc I h hx) λc _ ⟨_,I1,q⟩=>by
 cases c with
 | true=>exact ha I1 q hx
 | false=>exact hb I1 q hx)
noncomputable def FK:G6:=λ_ hd k _=>k [] hd
noncomputable def FL(Ta:TD)(Tr:G6):G6:=λσ hd k e=>Ta σ hd (λx h1=>Tr σ h1 (λxs h2=>k (x::xs) h2) e) e
variable{es:List Expr}{Tr:G6}
theorem Vg:DA X xr [] FK:= .mk λ_{_ _ _ _ _ _ _}I h _=>CJ ⟨[],_,I,rfl,h⟩
theorem WJ(ha:DE X xr a Ta)(hr:DA X xr es Tr)(hs:Ai (a::es) X.env=(false,eval a X.env)::Ai es X.env:=by rfl):DA X xr (a::es) (FL Ta Tr):= .mk λpos{_ _ _ _ _ _ _}I h hx=>by
 rw[hs];show X.W (spliced ((false,eval a X.env)::backTo pos (Ai es X.env))) _ _;refine BW (FO (ha I h hx) λu _ ⟨x,_,I1,q⟩=>FO (hr pos I1 q hx) λus _ ⟨xs,H2,I2,l,q⟩=>⟨x::xs,H2,I2.sub ?_,congrArg (· +1) l,q⟩);simp
 grind
noncomputable def sz:Nat->List D->Prop->Prop
 | _,[],p=>p
 | n+1,_::xs,p=>sz n xs p
 | 0,_::_,_=>False
theorem Kl:∀{n:Nat}{xs:List D}{p:Prop},sz n xs p->xs.length<=n/\p
 | n,[],_,h=>by cases n<;>exact⟨AK _,h⟩
 | n+1,_::xs,_,h=>let⟨l,q⟩:=Kl (n:=n) (xs:=xs) h;⟨Nat.succ_le_succ l,q⟩
theorem Lc{n:Nat}(h:n<=1000):n<=An:=At h (by decide)
noncomputable def Gw(T:G6):TD:=λσ hd k e=>T σ hd (λxs h1=>sz 1000 xs (k (.tup xs) h1)) e
theorem Inv.tup{pins vl s σ H}{ds:List D}{us:List Value}(I:Inv X pins vl σ H s)(r:Rvs X.ev s.heap H ds us)(l:ds.length<=An){k:DK}(q:k (.tup ds) H.hd):
 EP X pins vl σ k (.ref s.heap.objs.size) {s with heap:=s.heap.push {cls:= .type "tuple",data:= .seq us.toArray}}:=by
 have I1:=I.new (t':=s.toks) (ob:={cls:= .type "tuple",data:= .seq us.toArray}) rfl;exact I1.ret (.tup ⟨I.hok.fresh (Al _),r.length ▸ l,_,_,Ak _ rfl,rfl,rfl,rfl,λz=>absurd z (by decide)⟩ (r.im λ_ _ e f=>⟨Ad _ e,f⟩)) q
theorem UN{x1}(h:DA X xr es Tr):DE X xr (.Tuple es x1 pos) (Gw Tr):= .mk λI q hx=>wpAny_Tuple_spliced (FO (h pos I q hx) λus _ ⟨ds,_,I1,l,q⟩=>⟨by rw[<-l];exact Lc (Kl q).1,I1.out.tup (I1.vals l) (Lc (Kl q).1) (Kl q).2⟩)
end
end Lake
set_option exponentiation.threshold 2000
namespace Lake
noncomputable def seqL(hd:Hd):D->Option (List D)
 | .lst xs=>some xs
 | .ref a=>(match hd a with | some (.lst xs)=>some xs | _=>none)
 | _=>none
noncomputable def seqD(hd:Hd):D->Option (List D)
 | .tup xs=>some xs
 | d=>seqL hd d
theorem Y8{hd:Hd}{a:Addr}{xs:List D}(h:seqL hd (.ref a)=some xs):hd a=some (.lst xs):=by simp only[seqL] at h;split at h<;>simp_all
noncomputable abbrev HY(h:Heap)(a:Addr)(us:List Value)(n:Nat):Prop:=h.get? a=some {cls:= .type "list",data:= .seq us.toArray n}
section
variable{X:Cx}{pins:List (Addr×Obj)}{vl:List (D×Value)}{σ:Sd}{H:Hx}{s:Shared}{d:D}{u:Value}{xs:List D}{k:DK}
theorem Inv.seqL(I:Inv X pins vl σ H s)(r:Rv X.ev s.heap H d u)(h:seqL H.hd d=some xs):∃a us n,u= .ref a/\HY s.heap a us n/\Rvs X.ev s.heap H xs us/\us.length<=An:=by
 cases d with
 | lst zs=>cases h;cases r with | lst q r=>obtain⟨_,l,o,n,e,_,_,_,x⟩:=q;cases x rfl;exact⟨_,_,n,rfl,e,r,l⟩
 | ref a=> cases r.r;obtain⟨us,n,l,r,e⟩:=I.hok.at' _ _ (Y8 h);exact⟨a,us,n,rfl,e,r,r.length ▸ l⟩
 | _=>cases h
theorem Inv.seqD(I:Inv X pins vl σ H s)(r:Rv X.ev s.heap H d u)(h:seqD H.hd d=some xs):∃a us,u= .ref a/\((∃n,HY s.heap a us n)\/IsTup s.heap a us.toArray)/\Rvs X.ev s.heap H xs us/\us.length<=An:=by
 have go:Lake.seqL H.hd d=some xs->∃a us,u= .ref a/\((∃n,HY s.heap a us n)\/IsTup s.heap a us.toArray)/\Rvs X.ev s.heap H xs us/\us.length<=An:=λh=>let⟨a,us,n,e1,e2,r,l⟩:=I.seqL r h;⟨a,us,e1,.inl ⟨n,e2⟩,r,l⟩;cases d with
 | tup zs=>cases h;cases r with | tup q r=>obtain⟨_,l,o,n,e,c,_,d,_⟩:=q;exact⟨_,_,rfl,.inr ⟨o,e,c,n,d⟩,r,l⟩
 | _=>exact go h
theorem Inv.lstN{ds:List D}{us:List Value}(I:Inv X pins vl σ H s)(r:Rvs X.ev s.heap H ds us)(l:ds.length<=An)(q:k (.lst ds) H.hd):EP X pins vl σ k (.ref s.heap.objs.size) {s with heap:=s.heap.push {cls:= .type "list",data:= .seq us.toArray}}:=
 (I.new (t':=s.toks) (ob:={cls:= .type "list",data:= .seq us.toArray}) rfl).ret (.lst ⟨I.hok.fresh (Al _),r.length ▸ l,_,_,Ak _ rfl,rfl,rfl,rfl,λ_=>rfl⟩ (r.im λ_ _ e f=>⟨Ad _ e,f⟩)) q
end
noncomputable def Gu:GJ:=λx y hd k=>match x with
 | .int i=>(match y with | .int j=>k (.int (i+j)) hd | _=>False)
 | .str i=>(match y with | .str j=>i.length+j.length<=An/\k (.str (i++j)) hd | _=>False)
 | .tup xs=>(match y with | .tup ys=>xs.length+ys.length<=An/\k (.tup (xs++ys)) hd | _=>False)
 | d=>(match seqL hd d with | some xs=>(match seqL hd y with | some ys=>xs.length+ys.length<=An/\k (.lst (xs++ys)) hd | none=>False) | none=>False)
noncomputable def Jh(C:Int->Int->Prop)(g:Int->Int->D):GJ:=λx y hd k=>match x with
 | .int i=>(match y with | .int j=>C i j/\k (g i j) hd | _=>False)
 | _=>False
noncomputable def HV(g:Int->Int->D):GJ:=λx y hd k=>match x with
 | .int i=>(match y with | .int j=>k (g i j) hd | _=>False)
 | _=>False
noncomputable def U7(i j:Int):Prop:=0<=j/\j<=1000/\i.natAbs<2^1000
noncomputable def U5(i j:Int):Prop:=0<j/\j<2^1000
noncomputable def U6(i j:Int):Prop:=i.natAbs<2^1000/\j.natAbs<2^1000
noncomputable abbrev HH:GJ:=HV λi j=> .int (i - j)
noncomputable abbrev Ik:GJ:=Jh U6 λi j=> .int (i*j)
noncomputable abbrev MY:GJ:=Jh U5 λi j=> .int (i / j)
noncomputable abbrev IH:GJ:=Jh (λ_ j=>0<j) λi j=> .int (i%j)
noncomputable abbrev Hh:GJ:=Jh U7 λi j=> .int (i^j.toNat)
noncomputable def I0(i j:Str):Bool:=decide (i.cps.toList<j.cps.toList)
noncomputable def Kt(f:Int->Int->Bool)(g:Str->Str->Bool):GJ:=λx y hd k=>match x with
 | .int i=>(match y with | .int j=>k (.bl (f i j)) hd | _=>False)
 | .str i=>(match y with | .str j=>k (.bl (g i j)) hd | _=>False)
 | _=>False
noncomputable abbrev O6:GJ:=Kt (λi j=>decide (i<j)) I0
noncomputable abbrev Kw:GJ:=Kt (λi j=>decide (i<=j)) λi j=>!I0 j i
noncomputable abbrev MR:GJ:=HV λi j=> .bl (decide (j<i))
noncomputable abbrev Tw:GJ:=HV λi j=> .bl (decide (j<=i))
noncomputable def Jg(neg:Bool):GJ:=λx y hd k=>match y with
 | .non=>(match x with | .non=>k (.bl !neg) hd | .gl _=>False | _=>k (.bl neg) hd)
 | _=>False
section
variable{X:Cx}{o:Value->Value->Sem Value}{C:Int->Int->Prop}{g:Int->Int->D}
theorem Jb(rule:∀{pins vl s σ H k}(i j:Int)(t u:Tok),Inv X pins vl σ H s->C i j->k (g i j) H.hd->X.W (o (.int i t) (.int j u)) (EP X pins vl σ k) s):GS X o (Jh C g):=by
 intro pins vl s σ H k x u y w I q;cases x with
 | int i=>
  cases y with
  | int j=>obtain⟨_,rfl⟩:=I.hv.i;obtain⟨_,rfl⟩:=I.tl.hv.i;exact rule i j _ _ I.tl.tl q.1 q.2
  | _=>exact q.elim
 | _=>exact q.elim
theorem Mp(rule:∀{pins vl s σ H k}(i j:Int)(t u:Tok),Inv X pins vl σ H s->k (g i j) H.hd->X.W (o (.int i t) (.int j u)) (EP X pins vl σ k) s):GS X o (HV g):=by intro pins vl s σ H k x u y w I q;exact Jb (C:=λ_ _=>True) (λi j t u I _ q=>rule i j t u I q) I (by cases x<;>cases y<;>first | exact⟨True.intro,q⟩ | exact q)
theorem LV{f:Int->Int->Bool}{g:Str->Str->Bool}(rule:∀{s E}{Q:Value->Shared->Prop}(i j:Int)(t u:Tok),Q (.bool (f i j)) s->wpAny (model X.prog X.w) X.A (o (.int i t) (.int j u)) Q E s)
 (rules:∀{s E}{Q:Value->Shared->Prop}(i j:Str)(t u:Tok),Q (.bool (g i j)) s->wpAny (model X.prog X.w) X.A (o (.str i t) (.str j u)) Q E s):GS X o (Kt f g):=by
 intro pins vl s σ H k x u y w I q;cases x with
 | int i=>
  cases y with
  | int j=>obtain⟨_,rfl⟩:=I.hv.i;obtain⟨_,rfl⟩:=I.tl.hv.i;exact rule i j _ _ (I.tl.tl.bl q)
  | _=>exact q.elim
 | str i=>
  cases y with
  | str j=>obtain⟨_,rfl⟩:=I.hv.s;obtain⟨_,rfl⟩:=I.tl.hv.s;exact rules i j _ _ (I.tl.tl.bl q)
  | _=>exact q.elim
 | _=>exact q.elim
theorem N6{i:Int}(h:i.natAbs<2^1000):F6 i<=1000:=intBits_le h
theorem V5:GS X (binaryOp .Sub) HH:=Mp λ_ _ _ _ I q=>sub_int (I.int q)
theorem Wc:GS X (binaryOp .Mult) Ik:=Jb λ_ _ _ _ I hc q=>mul_int (I.int q) (IntMulOk.of_bits (At (N6 hc.1) (by decide)) (At (N6 hc.2) (by decide)))
theorem Wb:GS X (binaryOp .Mod) IH:=Jb λi j _ _ I(hc:0<j)q=>mod_int' (by lia) (by rw[Int.fmod_eq_emod_of_nonneg i (by lia)];exact I.int q)
theorem V4:GS X (binaryOp .Pow) Hh:=Jb λi j _ _ I hc q=>by obtain⟨h0,h1,h2⟩:=hc;refine pow_int h0 ?_ (I.int q);have a1:((F6 i:Nat):Int)*j<=1000*j:=Int.mul_le_mul_of_nonneg_right (by have:=N6 h2;lia) h0;exact Int.le_trans a1 (by lia)
theorem XG:GS X (binaryOp .FloorDiv) MY:=Jb λi j _ _ I hc q=>by
 obtain⟨h0,h1⟩:=hc;refine floordiv_int (by lia) (by rw[Int.fdiv_eq_ediv_of_nonneg i (by lia)];exact I.int q) (.inl (PyProof.noPylong_of_log2 ?_));have:=(Nat.log2_lt (k:=1000) (show j.natAbs≠0 by lia)).mpr (by lia)
 lia
theorem Pj:GS X (BC .Lt) O6:=LV (λ_ _ _ _ q=>lt_int q) λ_ _ _ _ q=>lt_str q
theorem KM:GS X (BC .LtE) Kw:=LV (λ_ _ _ _ q=>le_int q) λ_ _ _ _ q=>PySem.P.le_str q
theorem Ph:GS X (BC .Gt) MR:=Mp λ_ _ _ _ I q=>gt_int (I.bl q)
theorem TW:GS X (BC .GtE) Tw:=Mp λ_ _ _ _ I q=>ge_int (I.bl q)
theorem Mt(neg:Bool):GS X (BC (if neg then .IsNot else .Is)) (Jg neg):=by
 intro pins vl s σ H k x u y w I q;cases y with
 | non=>
  cases I.hv.n;have go:∀b,(u==Value.none)=b->k (.bl (b !=neg)) H.hd->X.W (BC (if neg then .IsNot else .Is) u .none) (EP X pins vl σ k) s:=λb e q=>by
   subst e;cases neg with
   | false=>exact is_none_gen (by simpa using I.tl.tl.bl (by simpa using q))
   | true=>exact isnot_none_gen (by simpa using I.tl.tl.bl (by simpa using q))
  have r:=I.tl.hv;cases x<;>first | exact q.elim | (cases r;exact go _ rfl (by cases neg<;>exact q))
 | _=>exact q.elim
theorem V_:GS X (binaryOp .Add) Gu:=by
 intro pins vl s σ H k x u y w I q;have go:(match seqL H.hd x with | some xs=>(match seqL H.hd y with | some ys=>xs.length+ys.length<=An/\k (.lst (xs++ys)) H.hd | none=>False) | none=>False)->X.W (binaryOp .Add u w) (EP X pins vl σ k) s:=λq=>by
  split at q<;>try exact q.elim
  split at q<;>try exact q.elim
  rename_i e1 _ _ e2;obtain⟨a,us,n,rfl,h1,r1,_⟩:=I.tl.seqL I.tl.hv e1;obtain⟨b,vs,m,rfl,h2,r2,_⟩:=I.seqL I.hv e2;refine PySem.P.add_list h1 h2 ?_ (by simpa [<-r1.length,<-r2.length] using q.1);rw[show us.toArray++vs.toArray=(us++vs).toArray by simp];exact I.tl.tl.lstN (r1.app r2) (by rw[Ah];exact q.1) q.2
 cases x with
 | int i=>
  cases y with
  | int j=>obtain⟨_,rfl⟩:=I.hv.i;obtain⟨_,rfl⟩:=I.tl.hv.i;exact add_int (I.tl.tl.int q)
  | _=>exact q.elim
 | str i=>
  cases y with
  | str j=>obtain⟨_,rfl⟩:=I.hv.s;obtain⟨_,rfl⟩:=I.tl.hv.s;exact add_str (λt' tk=>(I.tl.tl.tok _).ret (.str _ _) q.2) q.1
  | _=>exact q.elim
 | tup xs=>
  cases y with
  | tup ys=>
   . obtain⟨a,us,rfl,p1,r1⟩:=I.tl.hv.t;obtain⟨b,vs,rfl,p2,r2⟩:=I.hv.t;obtain⟨_,_,⟨cls,dd,data,sl⟩,n,ho,hc,_,hd,_⟩:=p1;obtain⟨_,_,⟨cls2,dd2,data2,sl2⟩,n2,ho2,hc2,_,hd2,_⟩:=p2;cases hc;cases hd;cases hc2;cases hd2;have fin:=λ{S:PySem.Spec}(m:Meets (Builtin.«tuple.__add__» ⟨[.ref a,.ref b],[]⟩) S)h=>concat_meets (prog:=X.prog) (w:=X.w) (A:=X.A) (Q:=EP X pins vl σ k) (E:=X.xe) (T:="tuple") (S:=S) (s:=s) (a:= .ref a) (b:= .ref b) ⟨_,ho,rfl⟩ ⟨_,ho2,rfl⟩ noFill_tuple_add seq_tuple_add PySem.F.slot_tuple_add PySem.F.entry_tuple_add (PySem.F.args_tuple_add_2 _ _) m h;cases us with
     | nil=>cases r1;exact fin (tuple_addW0 a b _ _ n n2 dd dd2 sl sl2 (by rfl)) ⟨ho,ho2,I.tl.tl.ret I.hv q.2⟩
     | cons u us=>
      cases vs with
      | nil=>cases r2;exact fin (tuple_addW1 a b _ _ n n2 dd dd2 sl sl2 (by simp) (by rfl)) ⟨ho,ho2,I.tl.tl.ret I.tl.hv (by simpa using q.2)⟩
      | cons v vs=> refine fin (tuple_addW2 a b _ _ n n2 dd dd2 sl sl2 (by simp) (by simp) (by simpa [<-r1.length,<-r2.length] using q.1)) ⟨ho,ho2,?_⟩;rw[show(u::us).toArray++(v::vs).toArray=(u::us++v::vs).toArray by simp];exact I.tl.tl.tup (r1.app r2) (by rw[Ah];exact q.1) q.2
  | _=>exact q.elim
 | lst _=>exact go q
 | ref _=>exact go q
 | _=>exact q.elim
end
mutual
def FQ:D->D->Bool
 | .non,.non=>true
 | .bl a,.bl b=>a==b
 | .bl a,.int b=>(if a then 1 else 0)==b
 | .int a,.bl b=>a==(if b then 1 else 0)
 | .int a,.int b=>a==b
 | .str a,.str b=>a==b
 | .lst xs,.lst ys=>FT xs ys
 | .tup xs,.tup ys=>FT xs ys
 | _,_=>false
def FT:List D->List D->Bool
 | [],[]=>true
 | x::xs,y::ys=>FQ x y && FT xs ys
 | _,_=>false
end
mutual
def Gm:Nat->D->Bool
 | _,.non=>true
 | _,.bl _=>true
 | _,.int _=>true
 | _,.str _=>true
 | n+1,.tup ds=>G0 n ds
 | n+1,.lst ds=>G0 n ds
 | _,_=>false
def G0:Nat->List D->Bool
 | _,[]=>true
 | n,d::ds=>Gm n d && G0 n ds
end
noncomputable def GG(hd:Hd):D->D
 | .ref a=>(match hd a with | some (.lst xs)=> .lst xs | _=> .ref a)
 | d=>d
mutual
inductive Nw(h:Heap):Nat->D->Value->Prop
 | non {n}:Nw h n .non .none
 | bl {n} (b:Bool):Nw h n (.bl b) (.bool b)
 | int {n} (i:Int) (t:Tok):Nw h n (.int i) (.int i t)
 | str {n} (i:Str) (t:Tok):Nw h n (.str i) (.str i t)
 | tup {n a us ds}:IsTup h a (C0 us)->Nws h n ds us->Nw h (n+1) (.tup ds) (.ref a)
 | lst {n a us ds}:h.IsList a (C0 us)->Nws h n ds us->Nw h (n+1) (.lst ds) (.ref a)
inductive Nws(h:Heap):Nat->List D->List Value->Prop
 | nil {n}:Nws h n [] []
 | cons {n d u ds us}:Nw h n d u->Nws h n ds us->Nws h n (d::ds) (u::us)
end
theorem N5{α:Type}[BEq α][ReflBEq α](a:α):(a==a)=true:=beq_self_eq_true a
theorem YY{h:Heap}{n:Nat}{d:D}{u:Value}(r:Nw h n d u):FQ d d=true:=
 @Nw.rec h (λ_ d _ _=>FQ d d=true) (λ_ d _ _=>FT d d=true) rfl N5 (λi _=>N5 i) (λi _=>N5 i) (λ_ _ r=>r) (λ_ _ r=>r) rfl (λ_ _ a b=>(Ae _ _).mpr ⟨a,b⟩) n d u r
theorem N_:∀ds es:List D,FT ds es=((A6 (min ds.length es.length)).all (λj=>FQ (ds.getD j .non) (es.getD j .non)) && ds.length==es.length)
 | [],[]=>rfl
 | [],_::_=>by simp[FT]
 | _::_,[]=>by simp[FT]
 | d::ds,e::es=>by rw[FT,N_ ds es,Ao,Ao,Nat.succ_min_succ,EZ,Ce,Bp,<-Bool.and_assoc];simp[Function.comp_def]
section
variable{h:Heap}{H:Hx}{G:Ev}
theorem Nws.iff{n:Nat}:∀{ds:List D}{us:List Value},Nws h n ds us↔ds.length=us.length/\∀(i:Nat)(d:D)(u:Value),ds[i]?=some d->us[i]?=some u->Nw h n d u
 | [],[]=>by simp[Nws.nil]
 | [],_::_=>⟨nofun,λx=>nomatch x.1⟩
 | _::_,[]=>⟨nofun,λx=>nomatch x.1⟩
 | d::ds,u::us=>by
  constructor
  . rintro(_ | ⟨a,b⟩);have:=Nws.iff.1 b;exact⟨by simp[this.1],λi e v=>by cases i<;>grind⟩
  . exact λ⟨l,f⟩=> .cons (f 0 _ _ rfl rfl) (Nws.iff.2 ⟨by simpa using l,λi e v x y=>f (i+1) e v x y⟩)
theorem Xk{a:Addr}{x y:List Value}(p:IsTup h a x.toArray)(q:IsTup h a y.toArray):x=y:=by
 obtain⟨o,h1,_,n,h2⟩:=p;obtain⟨o',k1,_,m,k2⟩:=q;rw[h1] at k1;cases k1;rw[h2] at k2;obtain⟨e,_⟩:x=y/\n=m:=by simpa using k2
 exact e
theorem XD{a:Addr}{x y:List Value}(p:h.IsList a x.toArray)(q:h.IsList a y.toArray):x=y:=by
 obtain⟨o,h1,_,n,h2⟩:=p;obtain⟨o',k1,_,m,k2⟩:=q;rw[h1] at k1;cases k1;rw[h2] at k2;obtain⟨e,_⟩:x=y/\n=m:=by simpa using k2
 exact e
theorem Rg{a:Addr}{x y:List Value}(p:IsTup h a x.toArray)(q:h.IsList a y.toArray):False:=by obtain⟨o,h1,c,_⟩:=p;obtain⟨o',k1,c',_⟩:=q;rw[h1] at k1;cases k1;rw[c] at c';injection c' with z;exact absurd z (by decide)
section
variable{n:Nat}{d:D}{ds:List D}{u:Value}{us:List Value}{a:Addr}
theorem Nw.n0(r:Nw h n d .none):d= .non:=by cases r;rfl
theorem Nw.b{b:Bool}(r:Nw h n d (.bool b)):d= .bl b:=by cases r;rfl
theorem Nw.i{i:Int}{t:Tok}(r:Nw h n d (.int i t)):d= .int i:=by cases r;rfl
theorem Nw.s{i:Str}{t:Tok}(r:Nw h n d (.str i t)):d= .str i:=by cases r;rfl
theorem Nw.r(r:Nw h n d (.ref a)):∃m us ds,Nws h m ds us/\(d= .tup ds/\IsTup h a us.toArray\/d= .lst ds/\h.IsList a us.toArray):=by
 cases r with
 | tup p r=>exact⟨_,_,_,r,.inl ⟨rfl,p⟩⟩
 | lst p r=>exact⟨_,_,_,r,.inr ⟨rfl,p⟩⟩
theorem Nws.e(r:Nws h n ds []):ds=[]:=by cases r;rfl
theorem Nws.c(r:Nws h n ds (u::us)):∃d es,ds=d::es/\Nw h n d u/\Nws h n es us:=by cases r with | cons a b=>exact⟨_,_,rfl,a,b⟩
theorem Nw.inj{m:Nat}{e:D}(r:Nw h n d u)(t:Nw h m e u):d=e:=
 @Nw.rec h (λ_ d u _=>∀{m e},Nw h m e u->d=e) (λ_ d u _=>∀{m e},Nws h m e u->d=e) (λ{_ _ _}t=>t.n0.symm) (λ{_}_{_ _}t=>t.b.symm) (λ{_}_ _{_ _}t=>t.i.symm) (λ{_}_ _{_ _}t=>t.s.symm)
  (λ{_ _ _ _}p _ ih{_ _}t=>by
   obtain⟨m,us,ds,t,⟨rfl,q⟩ | ⟨rfl,q⟩⟩:=t.r
   . cases Xk p q;rw[ih t]
   . exact(Rg p q).elim)
  (λ{_ _ _ _}p _ ih{_ _}t=>by
   obtain⟨m,us,ds,t,⟨rfl,q⟩ | ⟨rfl,q⟩⟩:=t.r
   . exact(Rg q p).elim
   . cases XD p q;rw[ih t])
  (λ{_ _ _}t=>t.e.symm) (λ{_ _ _ _ _}_ _ ha hb{_ _}t=>by obtain⟨d,es,rfl,a,b⟩:=t.c;rw[ha a,hb b]) n d u r _ _ t
end
theorem Sq.at_{c:String}{a:Addr}{us:List Value}(q:Sq h H c a us):∃o,h.get? a=some o/\o.cls= .type c/\∃n,o.data= .seq us.toArray n:=let⟨_,_,o,n,a,b,_,c,_⟩:=q;⟨o,a,b,n,c⟩
theorem Rv.nw{n:Nat}{d:D}{u:Value}(e:Gm n d=true)(r:Rv G h H d u):Nw h n d u:=
 @Rv.rec G h H (λd u _=>∀{n},Gm n d=true->Nw h n d u) (λd u _=>∀{n},G0 n d=true->Nws h n d u) (λ{_}_=> .non) (λb{_}_=> .bl b) (λb t{_}_=> .int b t) (λb t{_}_=> .str b t) (λ_{n}e=>by cases n<;>cases e) (λ_{n}e=>by cases n<;>cases e) (λ{_ _}_ _{n}e=>by cases n<;>cases e) (λ{_ _ _ _}_ _ _ _{n}e=>by cases n<;>cases e)
  (λ{_ _ _}q _ ih{n}e=>by cases n with | zero=>cases e | succ n=>exact .tup q.at_ (ih e)) (λ{_ _ _}q _ ih{n}e=>by cases n with | zero=>cases e | succ n=>exact .lst q.at_ (ih e)) (λ{_}_=> .nil) (λ{_ _ _ _}_ _ a b{_}e=> .cons (a ((Ae _ _).mp e).1) (b ((Ae _ _).mp e).2)) d u r _ e
theorem Q2{n:Nat}{d:D}:∀{ds:List D},G0 n ds=true->∀{i:Nat},ds[i]?=some d->Gm n d=true
 | e::ds,q,0,z=>Bg z ▸ ((Ae _ _).mp q).1
 | e::ds,q,i+1,z=>Q2 (ds:=ds) ((Ae _ _).mp q).2 (i:=i) z
theorem Rvs.nw{n:Nat}{d:List D}{u:List Value}(e:G0 n d=true)(r:Rvs G h H d u):Nws h n d u:=have⟨l,f⟩:=Rvs.iff.1 r;Nws.iff.2 ⟨l,λi d u a b=>(f i d u a b).nw (Q2 e a)⟩
theorem Inv.nw{X:Cx}{pins vl σ s}{n:Nat}{d:D}{u:Value}(I:Inv X pins vl σ H s)(e:Gm (n+1) (GG H.hd d)=true)(r:Rv X.ev s.heap H d u):Nw s.heap (n+1) (GG H.hd d) u:=by
 cases d with
 | ref a=>
  cases r.r;cases z:H.hd a with
  | none=>simp[GG,z,Gm] at e
  | some o=>
   cases o with
   | lst xs=> rw[show GG H.hd (.ref a)= .lst xs by simp[GG,z]] at e ⊢;rw[Gm] at e;obtain⟨us,m,_,r,q⟩:=I.hok.at' a _ z;exact .lst ⟨_,q,rfl,m,rfl⟩ (Rvs.nw e r)
   | _=>simp[GG,z,Gm] at e
 | _=>exact Rv.nw e r
end
theorem gd{ds:List D}{j:Nat}(h:j<ds.length):ds[j]?=some (ds.getD j .non):=by simp[h]
open SeqAt in
theorem RT{A:Ax}{s:Shared}{n m:Nat}{d e:D}{u v:Value}(a:Nw s.heap n d u)(b:Nw s.heap m e v)(h:RcAt A s u v (FQ d e)):EqAt A s u v (FQ d e):=λprog w E Q hq=>by
 have hs:u=v->FQ d e=true:=λz=>by cases z;cases a.inj b;exact YY a
 cases a<;>cases b<;>(
  unfold eqBool;refine Av (wpAny_ite_split (λhab=>?_) λ_=>Aa (h prog w E _ (AR hq)));rw[hs (eq_of_beq hab)] at hq;exact Aa (BS (Ab hq)))
open SeqAt in
theorem OY{A:Ax}{s:Shared}{n m:Nat}(hu:A.units<cLine):∀{d e:D}{u v:Value},Nw s.heap n d u->Nw s.heap m e v->(∀ds es,¬(d= .tup ds/\e= .tup es)/\¬(d= .lst ds/\e= .lst es))->RcAt A s u v (FQ d e)/\RcNeAt A s u v (!FQ d e)
 | _,_,_,_,.non,.non,_=>⟨.none_none,.none_none⟩
 | _,_,_,_,.non,.bl b2,_=>⟨.none_bool b2,.none_bool b2⟩
 | _,_,_,_,.non,.int b2 t2,_=>⟨.none_int b2 t2,.none_int b2 t2⟩
 | _,_,_,_,.non,.str b2 t2,_=>⟨.none_str b2 t2,.none_str b2 t2⟩
 | _,_,_,_,.non,.tup p2 _,_=>⟨.none_tuple p2 hu,.none_tuple p2 hu⟩
 | _,_,_,_,.non,.lst p2 _,_=>⟨.none_list p2 hu,.none_list p2 hu⟩
 | _,_,_,_,.bl b1,.non,_=>⟨.bool_none b1,.bool_none b1⟩
 | _,_,_,_,.bl b1,.bl b2,_=>⟨.bool_bool b1 b2,.bool_bool b1 b2⟩
 | _,_,_,_,.bl b1,.int b2 t2,_=>⟨.bool_int b1 b2 t2,.bool_int b1 b2 t2⟩
 | _,_,_,_,.bl b1,.str b2 t2,_=>⟨.bool_str b1 b2 t2,.bool_str b1 b2 t2⟩
 | _,_,_,_,.bl b1,.tup p2 _,_=>⟨.bool_tuple b1 p2 hu,.bool_tuple b1 p2 hu⟩
 | _,_,_,_,.bl b1,.lst p2 _,_=>⟨.bool_list b1 p2 hu,.bool_list b1 p2 hu⟩
 | _,_,_,_,.int b1 t1,.non,_=>⟨.int_none b1 t1,.int_none b1 t1⟩
 | _,_,_,_,.int b1 t1,.bl b2,_=>⟨.int_bool b1 t1 b2,.int_bool b1 t1 b2⟩
 | _,_,_,_,.int b1 t1,.int b2 t2,_=>⟨.int_int b1 t1 b2 t2,.int_int b1 t1 b2 t2⟩
 | _,_,_,_,.int b1 t1,.str b2 t2,_=>⟨.int_str b1 t1 b2 t2,.int_str b1 t1 b2 t2⟩
 | _,_,_,_,.int b1 t1,.tup p2 _,_=>⟨.int_tuple b1 t1 p2 hu,.int_tuple b1 t1 p2 hu⟩
 | _,_,_,_,.int b1 t1,.lst p2 _,_=>⟨.int_list b1 t1 p2 hu,.int_list b1 t1 p2 hu⟩
 | _,_,_,_,.str b1 t1,.non,_=>⟨.str_none b1 t1,.str_none b1 t1⟩
 | _,_,_,_,.str b1 t1,.bl b2,_=>⟨.str_bool b1 t1 b2,.str_bool b1 t1 b2⟩
 | _,_,_,_,.str b1 t1,.int b2 t2,_=>⟨.str_int b1 t1 b2 t2,.str_int b1 t1 b2 t2⟩
 | _,_,_,_,.str b1 t1,.str b2 t2,_=>⟨.str_str b1 t1 b2 t2,.str_str b1 t1 b2 t2⟩
 | _,_,_,_,.str b1 t1,.tup p2 _,_=>⟨.str_tuple b1 t1 p2 hu,.str_tuple b1 t1 p2 hu⟩
 | _,_,_,_,.str b1 t1,.lst p2 _,_=>⟨.str_list b1 t1 p2 hu,.str_list b1 t1 p2 hu⟩
 | _,_,_,_,.tup p1 _,.non,_=>⟨.tuple_none p1 hu,.tuple_none p1 hu⟩
 | _,_,_,_,.tup p1 _,.bl b2,_=>⟨.tuple_bool b2 p1 hu,.tuple_bool b2 p1 hu⟩
 | _,_,_,_,.tup p1 _,.int b2 t2,_=>⟨.tuple_int b2 t2 p1 hu,.tuple_int b2 t2 p1 hu⟩
 | _,_,_,_,.tup p1 _,.str b2 t2,_=>⟨.tuple_str b2 t2 p1 hu,.tuple_str b2 t2 p1 hu⟩
 | _,_,_,_,.tup p1 _,.tup p2 _,no=>((no _ _).1 ⟨rfl,rfl⟩).elim
 | _,_,_,_,.tup p1 _,.lst p2 _,_=>⟨.tuple_list p1 p2 hu,.tuple_list p1 p2 hu⟩
 | _,_,_,_,.lst p1 _,.non,_=>⟨.list_none p1 hu,.list_none p1 hu⟩
 | _,_,_,_,.lst p1 _,.bl b2,_=>⟨.list_bool b2 p1 hu,.list_bool b2 p1 hu⟩
 | _,_,_,_,.lst p1 _,.int b2 t2,_=>⟨.list_int b2 t2 p1 hu,.list_int b2 t2 p1 hu⟩
 | _,_,_,_,.lst p1 _,.str b2 t2,_=>⟨.list_str b2 t2 p1 hu,.list_str b2 t2 p1 hu⟩
 | _,_,_,_,.lst p1 _,.tup p2 _,_=>⟨.list_tuple p1 p2 hu,.list_tuple p1 p2 hu⟩
 | _,_,_,_,.lst p1 _,.lst p2 _,no=>((no _ _).2 ⟨rfl,rfl⟩).elim
open SeqAt in
theorem OX{s:Shared}{m:Nat}:∀(n:Nat)(A:Ax){d e:D}{u v:Value},A.units+n<cLine->Nw s.heap n d u->Nw s.heap m e v->RcAt A s u v (FQ d e)/\RcNeAt A s u v (!FQ d e):=by
 intro n
 induction n generalizing m with
 | zero=>exact λA{_ _ _ _}hu a b=>OY hu a b λds es=>by cases a<;>simp
 | succ n ih=>
  intro A d e u v hu a b;have el:∀{ds es:List D}{us vs:List Value}{m},Nws s.heap n ds us->Nws s.heap m es vs->ds.length=us.toArray.size/\es.length=vs.toArray.size/\∀j(h1:j<us.toArray.size)(h2:j<vs.toArray.size),EqAt A.in1 s us.toArray[j] vs.toArray[j] (FQ (ds.getD j .non) (es.getD j .non)):=λ{ds es us vs m}r q=>by obtain⟨l1,f1⟩:=Nws.iff.1 r;obtain⟨l2,f2⟩:=Nws.iff.1 q;refine⟨by simpa using l1,by simpa using l2,λj h1 h2=>?_⟩;simp only[Ay] at h1 h2;have a:=f1 j (ds.getD j .non) us[j] (gd (by lia)) (by simp);have b:=f2 j (es.getD j .non) vs[j] (gd (by lia)) (by simp);exact RT a b (ih A.in1 (by rw[Bh];lia) a b).1
  by_cases no:∀ds es,¬(d= .tup ds/\e= .tup es)/\¬(d= .lst ds/\e= .lst es)
  . exact OY (by lia) a b no
  . cases a<;>cases b<;>first | (exfalso;apply no;simp;done) | skip
    . rename_i us _ p r _ _ vs _ q t;obtain⟨l1,l2,el⟩:=el r t;rw[FQ,N_,l1,l2];exact⟨RcAt.tuples p q (by lia) el,RcNeAt.tuples p q (by lia) el⟩
    . rename_i us _ p r _ _ vs _ q t;obtain⟨l1,l2,el⟩:=el r t;rw[FQ,N_,l1,l2];by_cases z:us.toArray.size=vs.toArray.size
      . rw[z,Nat.min_self,beq_self_eq_true,Bool.and_true,<-z];exact⟨RcAt.lists p q z (by lia) el,RcNeAt.lists p q z (by lia) el⟩
      . rw[beq_false_of_ne z,Fm];exact⟨RcAt.lists_lengths p q (by simpa using z) (by lia),RcNeAt.lists_lengths p q (by simpa using z) (by lia)⟩
theorem MX{s:Shared}{n m:Nat}{A:Ax}{d e:D}{u v:Value}(hu:A.units+n<cLine)(a:Nw s.heap n d u)(b:Nw s.heap m e v):SeqAt.EqAt A s u v (FQ d e):=RT a b (OX n A hu a b).1
noncomputable def GE(X:Cx):Prop:=X.A.units+60<cLine
noncomputable abbrev Gr(x y:D):Bool:=FQ x y
noncomputable def Ip(neg:Bool):GJ:=λx y hd k=>bif Gm 50 (GG hd x) && Gm 50 (GG hd y) then k (.bl (bif neg then !Gr (GG hd x) (GG hd y) else Gr (GG hd x) (GG hd y))) hd else False
noncomputable abbrev Oz(neg:Bool):CmpOp:=if neg then .NotEq else .Eq
noncomputable abbrev JJ(neg:Bool):CmpOp:=if neg then .NotIn else .In
section
variable{X:Cx}
theorem Nk(hr:GE X)(neg:Bool):GS X (BC (Oz neg)) (Ip neg):=by
 intro pins vl s σ H k x u y w I q;unfold Ip at q;cases e:Gm 50 (GG H.hd x) && Gm 50 (GG H.hd y) with
 | false=>rw[e] at q;exact q.elim
 | true=>
  rw[e] at q;rw[Ae] at e;obtain⟨h1,h2⟩:=OX 50 X.A (by unfold GE at hr;lia) (I.tl.nw e.1 I.tl.hv) (I.nw e.2 I.hv);cases neg with
  | false=>exact h1 _ _ _ _ (I.tl.tl.bl q)
  | true=>exact h2 _ _ _ _ (I.tl.tl.bl q)
open Classical in
noncomputable def Ji(h:Heap)(e:D)(u:Value):Bool:=decide (∃n d,Nw h n d u/\FQ d e=true)
open Classical in
theorem Qy{h:Heap}{n:Nat}{d e:D}{u:Value}(a:Nw h n d u):Ji h e u=FQ d e:=by unfold Ji;rw[A8,decide_eq_true_iff];exact⟨λ⟨_,_,b,q⟩=>by rw[a.inj b];exact q,λq=>⟨_,_,a,q⟩⟩
theorem Yi{h:Heap}{n:Nat}{e:D}{ds:List D}:∀{us:List Value},Nws h n ds us->us.any (Ji h e)=ds.any λd=>FQ d e:=by
 induction ds with
 | nil=>intro us r;cases us with | nil=>rfl | cons u us=>cases(Nws.iff.1 r).1
 | cons d ds ih=>
  intro us r;cases us with
  | nil=>cases(Nws.iff.1 r).1
  | cons u us=> obtain⟨_,_,z,a,b⟩:=r.c;cases z;rw[CC,CC,Qy a,ih b]
theorem Nws.mem{h:Heap}{n:Nat}{ds:List D}{us:List Value}(r:Nws h n ds us)(u:Value)(m:u∈us):∃d,Nw h n d u:=by obtain⟨l,f⟩:=Nws.iff.1 r;obtain⟨i,e⟩:=BZ m;have:=(Ar.mp e).1;exact⟨_,f i _ u (gd (by lia)) e⟩
noncomputable def LX(neg:Bool):GJ:=λx y hd k=>match y with
 | .str j=>(match x with | .str i=>k (.bl (bif neg then(EI j i 0 j.length 1).isEmpty else !(EI j i 0 j.length 1).isEmpty)) hd | _=>False)
 | y=>(match seqD hd y with
  | some ys=>(bif G0 50 ys && Gm 50 (GG hd x) then k (.bl (bif neg then !ys.any λd=>Gr d (GG hd x) else ys.any λd=>Gr d (GG hd x))) hd else False)
  | none=>False)
theorem Pi(hr:GE X)(neg:Bool):GS X (BC (JJ neg)) (LX neg):=by
 intro pins vl s σ H k x u y w I q;have go:(match seqD H.hd y with
  | some ys=>(bif G0 50 ys && Gm 50 (GG H.hd x) then k (.bl (bif neg then !ys.any λd=>Gr d (GG H.hd x) else ys.any λd=>Gr d (GG H.hd x))) H.hd else False)
  | none=>False)->X.W (BC (JJ neg) u w) (EP X pins vl σ k) s:=λq=>by
  split at q<;>try exact q.elim
  rename_i ys e;cases e2:G0 50 ys && Gm 50 (GG H.hd x) with
  | false=>rw[e2] at q;exact q.elim
  | true=>
   rw[e2] at q;rw[Ae] at e2;obtain⟨a,us,rfl,p,r,_⟩:=I.seqD I.hv e;have rn:=Rvs.nw e2.1 r;have xn:=I.tl.nw e2.2 I.tl.hv;have at':∀z∈us.toArray,SeqAt.EqAt X.A.in1 s z u (Ji s.heap (GG H.hd x) z):=λz hz=>by obtain⟨d,n⟩:=rn.mem z (by simpa using hz);rw[Qy n];exact MX (by unfold GE at hr;rw[Bh];lia) n xn
   have fin:∀b,b=us.toArray.any (Ji s.heap (GG H.hd x))->EP X pins vl σ k (.bool (bif neg then !b else b)) s:=λb e=>I.tl.tl.bl (by rw[e,List.any_toArray,Yi rn];exact q)
   rcases p with⟨n,p⟩ | p
   . cases neg
     . exact SeqAt.in_listAt _ ⟨_,p,rfl,n,rfl⟩ at' (fin _ rfl)
     . exact SeqAt.notIn_listAt _ ⟨_,p,rfl,n,rfl⟩ at' (fin _ rfl)
   . cases neg
     . exact SeqAt.in_tupleAt _ p at' (fin _ rfl)
     . exact SeqAt.notIn_tupleAt _ p at' (fin _ rfl)
 cases y with
 | str j=>
  cases x with
  | str i=>
   obtain⟨_,rfl⟩:=I.hv.s;obtain⟨_,rfl⟩:=I.tl.hv.s;cases neg
   . exact in_str (I.tl.tl.bl q)
   . exact notIn_str (I.tl.tl.bl (by rw[Bool.not_not];exact q))
  | _=>exact q.elim
 | _=>exact go q
end
theorem Yh{N:List Str}(hN:N.Nodup){i j:Nat}{x:Str}(a:N[i]?=some x)(b:N[j]?=some x):i=j:=by obtain⟨h1,e1⟩:=Ar.mp a;obtain⟨h2,e2⟩:=Ar.mp b;exact(List.getElem_inj hN).mp (e1.trans e2.symm)
section
variable{X:Cx}{pins:List (Addr×Obj)}{vl:List (D×Value)}{σ:Sd}{H:Hx}{s:Shared}{h':Heap}{d:D}{u:Value}
theorem Inv.store{a:Addr}{i t':Nat}(I:Inv X pins ((d,u)::vl) σ H s)(sb:AU a s.heap h')(ha:∃o,h'.get? a=some o)(so:H.so a)(hs:X.s₀.heap.objs.size<=a)(hp:∀p∈X.pn++pins,p.1≠a)
 (loc:∀m,s.heap.Ns X.env.locals m->(∀(j:Nat)(x:Str)(d:D),X.N[j]?=some x->σ[j]?=some (some d)->MT X.env.scope x->∃u,Rv X.ev s.heap H d u/\KD X.env s.heap m x u)->∃m',h'.Ns X.env.locals m'/\∀(j:Nat)(x:Str)(e:D),X.N[j]?=some x->(σ.set i (some d))[j]?=some (some e)->MT X.env.scope x->∃u,Rv X.ev s.heap H e u/\KD X.env h' m' x u)
 (cell:∀x c,X.env.cells.lookup x=some c->∃v,h'.IsCell c v):Inv X pins vl (σ.set i (some d)) H {s with heap:=h',toks:=t'}:=by
 have im:Im s.heap H h' H:=λb o e f=>⟨(sb.2 b (by rintro rfl;cases f.2.symm.trans so.2)).trans e,f⟩;have th:=Th.same sb ha;have k:∀b o,X.s₀.heap.get? b=some o->b≠a:=λb o e=>by have:=As e;lia
 obtain⟨m,hn,hl⟩:=I.loc;obtain⟨m',hn',hl'⟩:=loc m hn hl;refine⟨I.ok,I.os,I.bare,⟨I.base.im.trans im,λb o e n x y=>(sb.2 b (k b o e)).trans (I.base.keep b o e n x y),λb o e n x y=>?_,I.base.so⟩,⟨m',hn',λj x e a b c=>let⟨u,r,l⟩:=hl' j x e a b c;⟨u,r.im im,l⟩⟩,
  λp hp=>(I.tl.val p hp).im im,λx c e=>⟨cell x c e,(I.cell x c e).2⟩,I.free,λp h=>?_,⟨λb o e=>(I.hok.at' b o e).stay im (λc v hc q=>(sb.2 c ?_).trans q) λ_ z=>z,λb y e=>let⟨z,o,q⟩:=I.hok.ow b y e;⟨z,th b o q⟩⟩,by simpa using I.len⟩
 . obtain⟨sl,e1⟩:=I.base.slot b o e n x y;exact⟨sl,(sb.2 b (k b o e)).trans e1⟩
 . obtain⟨e,r⟩:=I.pin p h;exact⟨(sb.2 _ (hp p h)).trans e,r⟩
 . rintro rfl;rcases hc with hc | hc
   . rw[hc] at so;cases so.1.symm.trans e
   . rw[so.2] at hc;cases hc;cases so.1.symm.trans e
theorem MK{M:Model}{A:Ax}{E:Value->Shared->Prop}{i:Nat}{x:Str}{Q:Unit->Shared->Prop}(I:Inv X pins ((d,u)::vl) σ H s)(hN:X.N.Nodup)(hi:X.N[i]?=some x)(hx:KE X.env.scope x)
 (h:∀s',Inv X pins vl (σ.set i (some d)) H s'->(∃a,AU a s.heap s'.heap/\(a=X.env.locals\/X.env.cells.lookup x=some a))->Q () s') (hf:X.fn x=true\/X.env.scope.names.lookup x=some .local:=by first | exact .inl rfl | exact .inr rfl | assumption):wpAny M A (storeName X.env x u) Q E s:=by
 have hcls:(X.env.scope.kind== .class || (X.env.scope.kind== .module && X.env.locals !=X.env.globals))=false:=by rw[I.ok.kind];rfl
 have hiσ:i<σ.length:=by rw[I.len];exact(Ar.mp hi).1
 have cne:=I.cne;have ne:∀{j y},j≠i->X.N[j]?=some y->y≠x:=λhj e1 e=>hj (Yh hN e1 (e ▸ hi));rcases hx with hk | hk
 . obtain⟨m,hn,_⟩:=id I.loc;refine wpAny_storeName_local hk hn (λh' hn' hs=>h _ (I.store (i:=i) hs (let⟨o,_,_,e,_⟩:=hn';⟨o,e⟩) I.free I.ok.above (λp hp=>(I.pin p hp).2.2.1) (λm2 hn2 hl=>⟨_,hn',λj y e e1 e2 e3=>?_⟩) λy c e=>let⟨v,z⟩:=(I.cell y c e).1;⟨v,z.sameBut hs (cne y c e)⟩) ⟨_,hs,.inl rfl⟩) hcls;by_cases hj:j=i
   . subst hj;rw[hi] at e1;cases e1;rw[E_ hiσ] at e2;cases e2;exact⟨u,I.hv,.inl ⟨hk,by simp⟩⟩
   . rw[F3 (Be hj)] at e2;obtain⟨u',r',q⟩:=hl j y e e1 e2 e3;refine⟨u',r',q.imp (λ⟨k,z⟩=>⟨k,?_⟩) λ⟨k,c,z,w⟩=>⟨k,c,z,w.sameBut hs (cne y c z)⟩⟩;obtain⟨_,_,_,g1,g2,_,g3⟩:=hn;obtain⟨_,_,_,g1',g2',_,g3'⟩:=hn2;rw[g1] at g1';cases g1';rw[g2] at g2';cases g2';simp[ne hj e1,<-g3 y,g3' y,z]
 . have hfn:X.fn x=true:=hf.elim id λz=>by rw[z] at hk;cases hk
   obtain⟨c,hc⟩:=I.ok.has x (.inl hk);obtain⟨⟨w',z⟩,so⟩:=I.cell x c hc;obtain⟨oc,hoc,hocd⟩:=id z;refine wpAny_storeName_cell I.ok.kind hk hc z (λh' hc' hs=>h _ (I.store (i:=i) hs (let⟨o,e,_⟩:=hc';⟨o,e⟩) so (I.ok.cab x c hfn hc) (λp hp e=>?_) (λm hn hl=>⟨m,hn.sameBut hs (Be (cne x c hc)),λj y e e1 e2 e3=>?_⟩) λy c' e=>?_) ⟨c,hs,.inr hc⟩)
   . obtain⟨q,_,_,_,d⟩:=I.pin p hp;rw[e,hoc] at q;cases q;exact d w' hocd
   . by_cases hj:j=i
     . subst hj;rw[hi] at e1;cases e1;rw[E_ hiσ] at e2;cases e2;exact⟨u,I.hv,.inr ⟨.inl hk,c,hc,hc'⟩⟩
     . rw[F3 (Be hj)] at e2;obtain⟨u',r',q⟩:=hl j y e e1 e2 e3;exact⟨u',r',q.imp id λ⟨k,c',lc,w⟩=>⟨k,c',lc,w.sameBut hs (λec=>ne hj e1 (I.ok.inj _ _ _ lc (ec ▸ hc)))⟩⟩
   . by_cases hcc:c'=c
     . subst hcc;exact⟨_,hc'⟩
     . obtain⟨w2,z2⟩:=(I.cell y c' e).1;exact⟨w2,z2.sameBut hs hcc⟩
end
noncomputable abbrev GT:=D->Sd->Hd->(Sd->Hd->Prop)->Prop
noncomputable abbrev HN:=List D->Sd->Hd->(Sd->Hd->Prop)->Prop
noncomputable abbrev J5:=D->D->D->Hd->(Hd->Prop)->Prop
inductive GP(X:Cx)(pins:List (Addr×Obj))(vl:List (D×Value))(k:Sd->Hd->Prop)(s':Shared):Prop
 | mk (σ':Sd) (H':Hx) (i:Inv X pins vl σ' H' s') (q:k σ' H'.hd)
noncomputable def T9(X:Cx)(tg:Expr)(T:GT):Prop:=∀{pins vl s σ H d u k},Inv X pins ((d,u)::vl) σ H s->T d σ H.hd k->X.W (assign tg X.env u) (λ_=>GP X pins vl k) s
structure DG(X:Cx)(tg:Expr)(T:GT):Prop where
 mk::
 run:T9 X tg T
instance {X:Cx} {tg:Expr} {T:GT}:CoeFun (DG X tg T) λ_=>T9 X tg T:=⟨DG.run⟩
noncomputable def Mf(X:Cx)(tg:List Expr)(T:HN):Prop:=∀{pins vl s σ H ds us k},Inv X pins (ds.zip us++vl) σ H s->ds.length=us.length->T ds σ H.hd k->X.W (assignInOrder ((assignEach tg X.env).map (·.2)) us) (λ_=>GP X pins vl k) s
structure DGs(X:Cx)(tg:List Expr)(T:HN):Prop where
 mk::
 run:Mf X tg T
instance {X:Cx} {tg:List Expr} {T:HN}:CoeFun (DGs X tg T) λ_=>Mf X tg T:=⟨DGs.run⟩
noncomputable def Mc(X:Cx)(f:J5):Prop:=∀{pins vl s σ H x y z ov iv u k},Inv X pins ((y,iv)::(x,ov)::(z,u)::vl) σ H s->f x y z H.hd k->X.W (setItem ov iv u) (λ_ s'=>∃H',Inv X pins vl σ H' s'/\k H'.hd) s
noncomputable def FM(i:Nat):GT:=λd σ hd k=>k (σ.set i (some d)) hd
noncomputable def Lq:HN:=λds σ hd k=>match ds with | []=>k σ hd | _=>False
noncomputable def Lz(t:GT)(u:HN):HN:=λds σ hd k=>match ds with | d::r=>t d σ hd λσ' h'=>u r σ' h' k | []=>False
noncomputable def Pm(n:Nat)(t:HN):GT:=λd σ hd k=>match seqD hd d with | some ds=>ds.length=n/\t ds σ hd k | none=>False
section
variable{prog:AM}{w:World}{A:Ax}{E:Value->Shared->Prop}
theorem QW{it a:Addr}{its:Array Value}(ne:a≠it):∀(n i:Nat)(s:Shared)(Q:List Value->Shared->Prop),s.heap.IsListIter it a i->s.heap.IsList a its->i+n<=its.size->
 (∀g,g.IsListIter it a (i+n)->AU it s.heap g->Q ((its.toList.drop i).take n) {s with heap:=g})->wpAny (model prog w) A (draw (.ref it) n) Q E s
 | 0,i,s,Q,st,_,_,fin=>by show wpAny _ _ (pure []) Q E s;exact Ab (by simpa using fin s.heap st (Heap.SameBut.refl ..))
 | n+1,i,s,Q,st,hl,le,fin=>by
  have lt:i<its.size:=by lia
  show wpAny _ _ (pyNext (.ref it)>>=_) Q E s;refine Aa (Fb st hl (x:=its[i]) (by simp[lt]) λg st' sb=>?_);refine Aa (Av (QW ne n (i+1) _ _ st' (hl.extBut sb.extBut ne) (by lia) λg2 st2 sb2=>Ab ?_));have e1:its.toList.drop i=its[i]::its.toList.drop (i+1):=by simp[BG,lt]
  have z:=fin g2 (by rw[show i+(n+1)=i+1+n by lia];exact st2) (sb.trans sb2);rw[e1,List.take_succ_cons] at z;exact z
theorem ze9{s:Shared}{a:Addr}{its:Array Value}{targets:List (Bool×(Value->Sem Unit))}{Q:Unit->Shared->Prop}(hh:A.handled=none)(hl:s.heap.IsList a its)
 (hn:targets.length=its.size) (hst:targets.findIdx? (·.1)=none)
 (h:∀g,(∀b o,s.heap.get? b=some o->g.get? b=some o)->wpAny (model prog w) A (assignInOrder (targets.map (·.2)) its.toList) Q E {s with heap:=g}):
 wpAny (model prog w) A (unpack (.ref a) targets) Q E s:=by
 have ne:a≠s.heap.objs.size:=by obtain⟨o,ho,_⟩:=hl;exact Ba (As ho)
 unfold unpack;rw[hn,hst];refine Aa (Av ?_);unfold unpackItems;refine Aa ?_;unfold notIterableAtAll;refine Aa (Bw hl.typeIs slot_list_iter.lookup ?_);refine Ab ?_;simp only[A2,if_false];refine Aa (Av (Dx hl ?_));have kp:∀b o,s.heap.get? b=some o->(s.heap.push {cls:= .type "list_iterator",data:= .fields #[.ref a,.int 0 0]}).get? b=some o:=λb o e=>Ad _ e;refine Aa (Av (QW ne its.size 0 _ _ ⟨_,Ak _ rfl,rfl,rfl⟩ (hl.at λo e=>kp a o e) (by lia) λg st sb=>?_));have all:List.take its.size (List.drop 0 its.toList)=its.toList:=by rw[Fn];exact B9 (by simp)
 rw[all];rw[if_neg (by simp)];have hl1:g.IsList a its:=(hl.at λo e=>kp a o e).extBut sb.extBut ne;refine Aa (Av (wpAny_pyNext_list_end hh st hl1 (by simp) λg2 eb=>?_));simp only[Option.isSome_none,A2,if_false];refine Ab (h g2 λb o e=>?_);have hb:b≠s.heap.objs.size:=Ba (As e);exact eb b o hb (sb.extBut b o hb (kp b o e))
end
section
variable{X:Cx}{pos:Pos}
theorem N9{i:Nat}{x:Str}(hN:X.N.Nodup)(hi:X.N[i]?=some x)(hx:KE X.env.scope x)(hf:X.fn x=true\/X.env.scope.names.lookup x=some .local:=by first | exact .inl rfl | exact .inr rfl | assumption):DG X (.Name x pos) (FM i):=
.mk   λI h=>E0 (MK I hN hi hx (λ_ I' _=>⟨_,_,I',h⟩) hf)
theorem WV:DGs X [] Lq:= .mk λ{_ _ _ _ _ ds us _}I l h=>by
 cases ds with
 | nil=>cases us with | nil=>exact assignInOrder_nil ⟨_,_,I,h⟩ | cons _ _=>cases l
 | cons _ _=>exact h.elim
theorem XN{e:Expr}{es:List Expr}{t:GT}{u:HN}(h1:DG X e t)(h2:DGs X es u)(hs:(assignEach (e::es) X.env).map (·.2)=assign e X.env::(assignEach es X.env).map (·.2):=by rfl):DGs X (e::es) (Lz t u):= .mk λ{_ _ _ _ _ ds us _}I l h=>by
 cases ds with
 | nil=>exact h.elim
 | cons d ds=>cases us with
  | nil=>cases l
  | cons w us=>rw[hs];exact assignInOrder_cons (FO (h1 I h) λ_ _ ⟨_,_,I1,q⟩=>h2 I1 (Cm l) q)
theorem Xg{G:Ev}{h:Heap}{H:Hx}{ds:List D}{us:List Value}(r:Rvs G h H ds us)(p:D×Value)(hp:p∈ds.zip us):Rv G h H p.1 p.2:=have⟨i,e⟩:=BZ hp;(Rvs.iff.1 r).2 i _ _ (Cu.1 e).1 (Cu.1 e).2
theorem Inv.hold{pins vl σ H s}{ds:List D}{us:List Value}(I:Inv X pins vl σ H s)(r:Rvs X.ev s.heap H ds us):Inv X pins (ds.zip us++vl) σ H s:=⟨I.ok,I.os,I.bare,I.base,I.loc,λp hp=>(Aq.mp hp).elim (Xg r p) (I.val p),I.cell,I.free,I.pin,I.hok,I.len⟩
theorem UO{es:List Expr}{kk:Nat}{t:HN}{n:Nat}(hc:X.calm=true)(h:DGs X es t)(hn:(assignEach es X.env).length=n:=by rfl)(hst:(assignEach es X.env).findIdx? (·.1)=none:=by rfl):DG X (.Tuple es kk pos) (Pm n t):= .mk λ{_ _ s _ H d _ _}I q=>by
 unfold Pm at q
 split at q<;>try exact q.elim
 rename_i ds e;obtain⟨a,us,rfl,p,r,_⟩:=I.seqD I.hv e;have go:∀h',(∀b o,s.heap.get? b=some o->h'.get? b=some o)->X.W (assignInOrder ((assignEach es X.env).map (·.2)) us.toArray.toList) _ {s with heap:=h'}:=λh' k=> h ((I.tl.hold r).kept (t':=s.toks) k) r.length q.2
 have hl:(assignEach es X.env).length=us.toArray.size:=by rw[hn,<-q.1,r.length];simp
 rcases p with⟨n,p⟩ | p
 . rw[assign_Tuple];exact Aa (Cp (ze9 (I.ok.hd hc) ⟨_,p,rfl,n,rfl⟩ hl hst go))
 . exact assign_Tuple_tuple (I.ok.hd hc) p hl hst λh' hx=>go h' λb o e=>hx b o (by have:=As e;lia) e
end
structure DEnds where
 nx:Sd->Hd->Prop
 rt:DK
 bk:Sd->Hd->Prop:=λ_ _=>False
 ct:Sd->Hd->Prop:=λ_ _=>False
 xc:Sd->Str->Hd->Prop:=λ_ _ _=>False
noncomputable abbrev GC:=DEnds->Sd->Hd->Prop
noncomputable def SP(X:Cx)(pins:List (Addr×Obj))(vl:List (D×Value))(E:DEnds)(f:Flow)(s':Shared):Prop:=match f with
 | .next=>GP X pins vl E.nx s'
 | .brk=>GP X pins vl E.bk s'
 | .cont=>GP X pins vl E.ct s'
 | .ret u=>∃d σ' H',Inv X pins ((d,u)::vl) σ' H' s'/\E.rt d H'.hd
section
variable(X:Cx)(xr:XR)
noncomputable def T5(st:Stmt)(T:GC):Prop:=∀{pins vl s σ H E},Inv X pins vl σ H s->T E σ H.hd->(∀σ c h,E.xc σ c h->xr σ c h)->X.W (exec st X.env) (SP X pins vl E) s
structure DS(st:Stmt)(T:GC):Prop where
 mk::
 run:T5 X xr st T
instance {X:Cx} {xr:XR} {st:Stmt} {T:GC}:CoeFun (DS X xr st T) λ_=>T5 X xr st T:=⟨DS.run⟩
noncomputable def Me(st:List Stmt)(T:GC):Prop:=∀{pins vl s σ H E},Inv X pins vl σ H s->T E σ H.hd->(∀σ c h,E.xc σ c h->xr σ c h)->X.W (execs st X.env) (SP X pins vl E) s
structure DSs(st:List Stmt)(T:GC):Prop where
 mk::
 run:Me X xr st T
instance {X:Cx} {xr:XR} {st:List Stmt} {T:GC}:CoeFun (DSs X xr st T) λ_=>Me X xr st T:=⟨DSs.run⟩
end
noncomputable def GY:GC:=λE σ hd=>E.nx σ hd
noncomputable def GA(t u:GC):GC:=λE σ hd=>t {E with nx:=u E} σ hd
noncomputable def Go(Te:TD)(g:GT):GC:=λE σ hd=>Te σ hd (λd h1=>g d σ h1 E.nx) (E.xc σ)
noncomputable def Iu(Te:TD):GC:=λE σ hd=>Te σ hd (λ_ h1=>E.nx σ h1) (E.xc σ)
noncomputable def FP(Te:TD):GC:=λE σ hd=>Te σ hd E.rt (E.xc σ)
noncomputable def G4(U:G1)(t u:GC):GC:=λE σ hd=>U σ hd (λc h1=>bif c then t E σ h1 else u E σ h1) (E.xc σ)
noncomputable def Uk(g:GJ)(f:GJ)(t:J5)(To Ti Te:TD):GC:=λE σ hd=>To σ hd (λx h1=>Ti σ h1 (λy h2=>g x y h2 λo h3=>Te σ h3 (λz h4=>f o z h4 λn h5=>t x y n h5 λh6=>E.nx σ h6) (E.xc σ)) (E.xc σ)) (E.xc σ)
noncomputable def dNo:GC:=λ_ _ _=>False
section
variable{X:Cx}{xr:XR}{st:Stmt}{rest a b:List Stmt}{t u:GC}{e c x y:Expr}{Te To Ti:TD}{U:G1}{g:GT}{pos pos':Pos}
theorem Inv.dup2{pins σ H s}{p q:D×Value}{vl}(I:Inv X pins (p::q::vl) σ H s):Inv X pins (p::q::p::q::vl) σ H s:=I.sub (by simp+contextual)
theorem Inv.rot{pins σ H s}{p q r:D×Value}{vl}(I:Inv X pins (r::p::q::vl) σ H s):Inv X pins (p::q::r::vl) σ H s:=I.sub (by simp+contextual)
theorem Inv.quiet{pins vl σ H s}(I:Inv X pins vl σ H s):interactive X.env=false:=by simp[interactive,I.ok.kind]
theorem UX:DSs X xr [] GY:= .mk λI h _=>ET ⟨_,_,I,h⟩
theorem Wm(h1:DS X xr st t)(h2:DSs X xr rest u):DSs X xr (st::rest) (GA t u):= .mk λ{_ _ _ _ _ E}I h hx=>wpAny_execs_cons (FO (h1 (E:={E with nx:=u E}) I h hx) λf _ q=>by
 cases f with
 | next=>obtain⟨_,_,I',q⟩:=q;exact h2 I' q hx
 | _=>exact q)
theorem UY(h1:DS X xr st t):DSs X xr [st] t:= .mk λI h hx=>wpAny_execs_cons (FO (h1 I h hx) λf _ q=>by
 cases f with
 | next=>exact ET q
 | _=>exact q)
theorem U0:DS X xr st dNo:= .mk λ_ h _=>h.elim
theorem Wn(he:DE X xr e Te)(hs:swapsWith e none pos.line X.env=pure false:=by rfl):DS X xr (.Expr e pos) (Iu Te):= .mk λI h hx=>wpAny_Expr_any (FO (he I h (hx _)) λ_ _ ⟨_,_,I1,q⟩=>⟨_,_,I1.tl,q⟩) I.quiet hs
theorem UZ(he:DE X xr e Te):DS X xr (.Return (some e) pos) (FP Te):= .mk λI h hx=>wpAny_Return_some (FO (he I h (hx _)) λ_ _ ⟨d,H,I1,q⟩=>⟨d,_,H,I1,q⟩)
theorem Uz(hc:DT X xr c U)(ha:DSs X xr a t)(hb:DSs X xr b u):DS X xr (.If c a b pos) (G4 U t u):= .mk λI h hx=>wpAny_If (FO (hc I h (hx _)) λd _ ⟨_,I1,q⟩=>by
 cases d with
 | true=>exact ha I1 q hx
 | false=>exact hb I1 q hx)
theorem UT{tg:Expr}(he:DE X xr e Te)(hg:DG X tg g)(hs:swapsWithSole [tg] e pos.line X.env=pure false:=by rfl)(hw:swappedStores [tg] e X.env=pure none:=by rfl)
 (h1:(assignEach [tg] X.env).map (·.2)=[assign tg X.env]:=by rfl):DS X xr (.Assign [tg] e pos) (Go Te g):= .mk λI h hx=>wpAny_Assign_stores (FO (he I h (hx _)) λ_ _ ⟨_,_,I1,q⟩=>by
 rw[h1];exact FO (hg I1 q) λ_ _ q=>q) hs hw
theorem P1{i:Nat}{x:Str}(hN:X.N.Nodup)(hi:X.N[i]?=some x)(hx:KE X.env.scope x)(he:DE X xr e Te)(hs:swapsWith e (some (.Name x pos')) pos.line X.env=pure false:=by rfl)(hf:X.fn x=true\/X.env.scope.names.lookup x=some .local:=by first | exact .inl rfl | exact .inr rfl | assumption):
 DS X xr (.Assign [.Name x pos'] e pos) (Go Te (FM i)):= .mk λI h hq=>wpAny_Assign_Name (FO (he I h (hq _)) λ_ _ ⟨_,H1,I1,q⟩=>MK I1 hN hi hx (λ_ I2 _=>⟨_,H1,I2,q⟩) hf) hs
theorem Wk{gt f:GJ}{ts:J5}{op:Operator}(hg:GS X getItem gt)(hp:GS X (inplaceOp op) f)(hs:Mc X ts)(ho:DE X xr x To)(hi:DE X xr y Ti)(he:DE X xr e Te)(ha:∀ov iv new,augStore y ov iv new=(do holding [new,ov,iv] (setItem ov iv new);release [new,ov,iv] [];pure .next):=by intros;rfl):
 DS X xr (.AugAssign (.Subscript x y pos') op e pos) (Uk gt f ts To Ti Te):= .mk λI h hx=>wpAny_AugAssign_SubscriptAny (FO (ho I h (hx _)) λov _ ⟨x,_,I1,q⟩=>FO (hi I1 q (hx _)) λiv _ ⟨y,_,I2,q⟩=>
 FO (hg I2.dup2 q) λ_ _ ⟨_,_,I3,q⟩=>FO (he I3 q (hx _)) λ_ _ ⟨_,_,I4,q⟩=>FO (hp I4 q) λ_ _ ⟨_,_,I5,q⟩=>FO (hs I5.rot q) λ_ _ ⟨_,I6,q⟩=>⟨_,_,I6,q⟩) ha
end
noncomputable abbrev IC:=Sd->Hd->(List D->(Hd->Prop)->Hd->Prop)->G9->Prop
structure Turn(G:Ev)(tg:Expr)(ds:List D)(C:Hd->Prop)(src:List (D×Value))(fp:List Addr)(it:Addr)(tn:Nat->Heap->Prop):Prop where
 obj:∀i h,tn i h->∀b∈fp,∃o,h.get? b=some o/\∀v,o.data≠ .cell v
 keep:∀i h h',tn i h->(∀b∈fp,∀o,h.get? b=some o->h'.get? b=some o)->tn i h'
 item:∀{X:Cx},X.ev=G->X.calm=true->∀{i:Nat}{pins vl s σ H}{d:D},Inv X pins (src++vl) σ H s->(∀b∈fp,FpOk X pins H b)->tn i s.heap->C H.hd->ds[i]?=some d->
  X.W (pyNext (.ref it)) (λr s1=>∃u,r=some u/\X.W (DH tg (.ref it) u) (λ_ s2=>Inv X pins ((d,u)::(src++vl)) σ H s2/\tn (i+1) s2.heap) s1) s
 done:∀{X:Cx},X.ev=G->X.calm=true->∀{pins vl s σ H},Inv X pins (src++vl) σ H s->(∀b∈fp,FpOk X pins H b)->tn ds.length s.heap->C H.hd->
  X.W (pyNext (.ref it)) (λr s1=>r=none/\Inv X pins (src++vl) σ (H.drop fp) s1) s
 self:∀{P:AM}{w:World}{A:Ax}{E:Value->Shared->Prop}{s:Shared}{Q:Value->Shared->Prop},tn 0 s.heap->Q (.ref it) s->wpAny (model P w) A (pyIter (.ref it)) Q E s
inductive IP(X:Cx)(pins:List (Addr×Obj))(vl:List (D×Value))(σ:Sd)(tg:Expr)(k:List D->(Hd->Prop)->Hd->Prop)(itv:Value)(s2:Shared):Prop
 | mk (it:Addr) (src:List (D×Value)) (fp:List Addr) (tn:Nat->Heap->Prop) (ds:List D) (C:Hd->Prop) (H':Hx) (e:itv= .ref it) (i:Inv X pins (src++vl) σ H' s2) (t:Turn X.ev tg ds C src fp it tn) (t0:tn 0 s2.heap) (f:∀b∈fp,FpOk X pins H' b) (z:ds.length<=An) (q:k ds C H'.hd)
noncomputable def T8(X:Cx)(xr:XR)(tg iter:Expr)(T:IC):Prop:=∀{pins vl s σ H k ex},Inv X pins vl σ H s->T σ H.hd k ex->(∀c h,ex c h->xr σ c h)->X.W (eval iter X.env) (λv s1=>X.W (pyIter v) (IP X pins vl σ tg k) s1) s
structure DI(X:Cx)(xr:XR)(tg iter:Expr)(T:IC):Prop where
 mk::
 run:T8 X xr tg iter T
instance {X:Cx} {xr:XR} {tg iter:Expr} {T:IC}:CoeFun (DI X xr tg iter T) λ_=>T8 X xr tg iter T:=⟨DI.run⟩
noncomputable def J9(g:GT)(t:GC)(E:DEnds)(C:Hd->Prop):List D->Sd->Hd->Prop
 | [],σ,h=>C h/\E.nx σ h
 | d::ds,σ,h=>C h/\g d σ h λσ2 h2=>t {E with nx:=J9 g t E C ds,ct:=J9 g t E C ds,bk:=E.nx} σ2 h2
noncomputable def K9(T:IC)(g:GT)(t:GC):GC:=λE σ hd=>T σ hd (λds C h1=>J9 g t E C ds σ h1) (E.xc σ)
noncomputable def Kh(fp:List Addr)(h:Heap):List (Addr×Obj):=fp.filterMap λb=>(h.get? b).map λo=>(b,o)
theorem RV{fp:List Addr}{h:Heap}{b:Addr}{o:Obj}(hb:b∈fp)(e:h.get? b=some o):(b,o)∈Kh fp h:=By.mpr ⟨b,hb,by rw[e];rfl⟩
theorem Rp{fp:List Addr}{h:Heap}{p:Addr×Obj}(hp:p∈Kh fp h):p.1∈fp/\h.get? p.1=some p.2:=by
 obtain⟨b,hb,e⟩:=By.mp hp;cases q:h.get? b<;>simp_all
 grind
section
variable{X:Cx}{xr:XR}{pins pl:List (Addr×Obj)}{vl:List (D×Value)}{σ:Sd}{H:Hx}{s:Shared}{fp:List Addr}
theorem Inv.pinned(I:Inv X pins vl σ H s)(hf:∀b∈fp,FpOk X pins H b)(ho:∀b∈fp,∃o,s.heap.get? b=some o/\∀v,o.data≠ .cell v):Inv X (pins++Kh fp s.heap) vl σ H s:=
 I.pins_of λp hp=>(Aq.mp hp).elim (λz=>I.pin p (Am _ z)) λz=>by obtain⟨hb,e⟩:=Rp z;obtain⟨f0,f1,f2,_⟩:=hf p.1 hb;obtain⟨o,e',d⟩:=ho p.1 hb;rw[e] at e';cases e';exact⟨e,f0,f1,f2,d⟩
theorem Inv.unpinned(I:Inv X (pins++pl) vl σ H s):Inv X pins vl σ H s:=I.pins_of λp hp=>I.pin p (Am _ (A1 _ hp))
theorem Qq{α:Type}{ds:List α}{i:Nat}{d:α}(h:ds[i]?=some d):ds.drop i=d::ds.drop (i+1):=by obtain⟨l,e⟩:=Ar.mp h;rw[BG l,e]
theorem Turn.next{G:Ev}{tg:Expr}{ds:List D}{C:Hd->Prop}{src it}{tn:Nat->Heap->Prop}{h5:Heap}{i:Nat}{vl' σ'}(T:Turn G tg ds C src fp it tn)(st:tn i h5)(I:Inv X (pins++Kh fp h5) vl' σ' H s):
 tn i s.heap/\∀b∈fp,H.so b:=
 ⟨T.keep _ _ _ st λb hb o e=>(I.pin (b,o) (Am _ (Am _ (RV hb e)))).1,λb hb=>by obtain⟨o,e,_⟩:=T.obj _ _ st b hb;exact(I.pin (b,o) (Am _ (Am _ (RV hb e)))).2.1⟩
theorem FpOk.of{H':Hx}{b:Addr}(f:FpOk X pins H b)(n:H'.so b):FpOk X pins H' b:=⟨n,f.2⟩
theorem Inv.sout{src:List (D×Value)}(I:Inv X pins (src++vl) σ H s):Inv X pins vl σ H s:=I.sub λ_ h=>Am _ h
end
theorem Inv.soutr{X:Cx}{pins σ H s}{p:D×Value}{src vl:List (D×Value)}(I:Inv X pins (p::(src++vl)) σ H s):Inv X pins (p::vl) σ H s:=I.sub λ_ h=>(Ag.mp h).elim (λe=>e ▸ AA) λh=>Aw _ (Am _ h)
theorem UW{X:Cx}{xr:XR}{tg iter:Expr}{body:List Stmt}{T:IC}{g:GT}{t:GC}{pos:Pos}(hp:PassesOwn (model X.prog X.w) X.A X.env X.xe)(hc:X.calm=true)(hi:DI X xr tg iter T)(hg:DG X tg g)(hb:DSs X xr body t)
 (hs:∀x,Cc iter X.env x=pure x:=by intro _;rfl):DS X xr (.For tg iter body [] pos) (K9 T g t):= .mk λ{pins vl s σ H E}I h hx=>by
 refine wpAny_For (FO (hi I h (hx _)) λv s1 h1=>FO h1 λitv s2 ⟨it,src,fp,tn,ds,C,H2,e,I2,T,st2,f2,_,q2⟩=>?_) hs;subst e;refine codeAny_forLoop_any (λn s'=>∃i σ' H',Inv X pins (src++vl) σ' H' s'/\tn i s'.heap/\(∀b∈fp,H'.so b)/\n=ds.length - i/\i<=ds.length/\J9 g t E C (ds.drop i) σ' H'.hd) ?_ ds.length ⟨0,σ,H2,I2,st2,λb hb=>(f2 b hb).1,rfl,AK _,q2⟩;rintro n s3 ⟨i,σ3,H3,I3,st3,fr3,hn,hi',q3⟩;have ff:=λb hb=>(f2 b hb).of (fr3 b hb);cases ed:ds[i]? with
 | none=>
  have ei:i=ds.length:=by have:=Df.mp ed;lia
  subst ei;rw[E9] at q3;refine Dg hp (FO (T.done rfl hc I3 ff st3 q3.1) λr s4 ⟨hr,I4⟩=>?_);subst hr;exact ET ⟨σ3,_,I4.sout,q3.2⟩
 | some d=>
  rw[Qq ed] at q3;refine Dg hp (FO (T.item rfl hc I3 ff st3 q3.1 ed) λr s4 ⟨u,hr,h4⟩=>?_);subst hr;refine Dg hp (FO h4 λ_ s5 ⟨I5,st5⟩=>?_);refine Dg hp (FO (hg (I5.pinned ff (T.obj _ _ st5)) q3.2) λ_ s6 ⟨σ6,H6,I6,q6⟩=>?_);refine Dg hp (FO (hb I6 q6 hx) λf s7 q7=>?_);have again:GP X (pins++Kh fp s5.heap) (src++vl) (J9 g t E C (ds.drop (i+1))) s7->∃m,m<n/\∃i σ' H',Inv X pins (src++vl) σ' H' s7/\tn i s7.heap/\(∀b∈fp,H'.so b)/\m=ds.length - i/\i<=ds.length/\J9 g t E C (ds.drop i) σ' H'.hd:=λ⟨σ7,H7,I7,q7⟩=>by
   have l:=(Ar.mp ed).1;obtain⟨st7,so7⟩:=T.next st5 I7
   exact⟨ds.length - (i+1),by lia,i+1,σ7,H7,I7.unpinned,st7,so7,rfl,l,q7⟩
  cases f with
  | next=>exact again q7
  | cont=>exact again q7
  | brk=>obtain⟨σ7,H7,I7,q7⟩:=q7;exact⟨σ7,H7,I7.unpinned.sout,q7⟩
  | ret v=>obtain⟨x7,σ7,H7,I7,q7⟩:=q7;exact⟨x7,σ7,H7,I7.unpinned.soutr,q7⟩
noncomputable def GK(X:Cx)(N':List Str)(scope:Scope)(cl:List (Str×Addr))(C:Addr)(s₀:Shared)(H₀:Hx)(ex:List Addr):Cx:=
 {prog:=X.prog,w:=X.w,K:=X.K,mg:=X.mg,base:=X.base,A:=X.A,N:=N',s₀:=s₀,H₀:=H₀,env:=compEnvC scope cl C X.env,outer:=X.stack,stack:=X.stack,ex:=ex,fn:=λx=>scope.names.lookup x==some .cell,calm:=X.calm,pn:=[],xe:=λ_ _=>False}
noncomputable abbrev Jn:=List (Option Nat)
noncomputable def HA(js:Jn)(σ:Sd):Sd:=js.map λo=>o.bind (IB σ)
theorem WF{env:Env}(has:∀x,(env.kindOf x=some .cell\/env.kindOf x=some .free)->∃c,env.cells.lookup x=some c):
 ∀(names:List (Str×NameKind))(acc:List (Str×Addr)),(∀p∈names,p.2= .free->env.kindOf p.1=some .cell\/env.kindOf p.1=some .free)->(∀x c,acc.lookup x=some c->env.cells.lookup x=some c)->
  ∃cl,(forIn names acc (λ(p:Str×NameKind)(cs:List (Str×Addr))=>(do
   if p.2==NameKind.free then
    let c <-cellOf env p.1
    pure (ForInStep.yield ((p.1,c)::cs))
   else pure (ForInStep.yield cs):Sem (ForInStep (List (Str×Addr))))))=pure cl/\(∀x c,cl.lookup x=some c->env.cells.lookup x=some c)/\
   (∀x,(acc.lookup x).isSome=true->(cl.lookup x).isSome=true)/\∀p∈names,p.2= .free->(cl.lookup p.1).isSome=true:=by
 intro names
 induction names with
 | nil=>intro acc _ ha;exact⟨acc,rfl,ha,λ_ h=>h,λ_ h=>nomatch h⟩
 | cons p r ih=>
  intro acc hn ha;obtain⟨n,k⟩:=p;rw[DJ];by_cases hk:k= .free
  . subst hk;obtain⟨c,hc⟩:=has n (hn (n,.free) AA rfl);have e:cellOf env n=(pure c:Sem Addr):=by
     unfold cellOf;rw[hc]
    obtain⟨cl,h1,h2,h3,h4⟩:=ih ((n,c)::acc) (λq hq=>hn q (Aw _ hq)) (λx c' hx=>by
     rw[Bi] at hx;cases hb:x==n with
     | true=> rw[hb] at hx;cases hx;rw[show x=n from eq_of_beq hb];exact hc
     | false=> rw[hb] at hx;exact ha x c' hx)
    refine⟨cl,?_,h2,λx hx=>h3 x ?_,λq hq hf=>?_⟩
    . simp only[beq_self_eq_true,if_true,e];exact h1
    . rw[Bi];cases hb:x==n with
      | true=>rfl
      | false=>exact hx
    . rcases Ag.mp hq with rfl | hq
      . exact h3 _ (by simp[Bi])
      . exact h4 q hq hf
  . have hb:(k==NameKind.free)=false:=by simpa using hk
    obtain⟨cl,h1,h2,h3,h4⟩:=ih acc (λq hq=>hn q (Aw _ hq)) ha;refine⟨cl,?_,h2,h3,λq hq hf=>?_⟩
    . simp only[hb,A2,if_false];exact h1
    . rcases Ag.mp hq with rfl | hq
      . exact absurd hf hk
      . exact h4 q hq hf
theorem M7{env:Env}{scope:Scope}(has:∀x,(env.kindOf x=some .cell\/env.kindOf x=some .free)->∃c,env.cells.lookup x=some c)
 (hn:∀p∈scope.names,p.2= .free->env.kindOf p.1=some .cell\/env.kindOf p.1=some .free):
 ∃cl,closureFor scope env=pure cl/\(∀x c,cl.lookup x=some c->env.cells.lookup x=some c)/\∀p∈scope.names,p.2= .free->(cl.lookup p.1).isSome=true:=by
 obtain⟨cl,h1,h2,_,h4⟩:=WF has scope.names [] hn (λ_ _ h=>nomatch h);refine⟨cl,?_,h2,h4⟩;unfold closureFor;show(do let cs <-forIn scope.names [] _;pure cs)=_
 refine Eq.trans ?_ h1;simp only[bind_pure]
structure CapOk(X:Cx)(N':List Str)(js:Jn)(scope:Scope):Prop where
 len:js.length=N'.length
 kind:scope.kind= .function
 cells:∀p∈scope.names,p.2= .cell->scope.names.lookup p.1=some .cell
 names:∀p∈scope.names,p.2= .local->scope.names.lookup p.1=some .local
 free:∀p∈scope.names,p.2= .free->X.env.kindOf p.1=some .cell\/X.env.kindOf p.1=some .free
 cap:∀(i j:Nat),js[i]?=some (some j)->∃x,N'[i]?=some x/\X.N[j]?=some x/\scope.names.lookup x=some .free
theorem MF{names:List (Str×NameKind)}{x:Str}{k:NameKind}(h:names.lookup x=some k):(x,k)∈names:=by
 induction names with
 | nil=>cases h
 | cons p r ih=>
  obtain⟨n,k'⟩:=p;rw[Bi] at h;cases hb:x==n with
  | true=> rw[hb] at h;cases h;rw[show x=n from eq_of_beq hb];exact AA
  | false=> rw[hb] at h;exact Aw _ (ih h)
theorem RZ{scope:Scope}{env:Env}{x:Str}{k:NameKind}(h:(relabel scope env).names.lookup x=some k):∃k0,scope.names.lookup x=some k0/\(k=k0\/(k0= .free/\k= .cell)):=by
 have go:∀(names:List (Str×NameKind)),(names.map λ(p:Str×NameKind)=>if(p.2==NameKind.free && env.scope.kind== .function && env.kindOf p.1==some .cell) then(p.1,NameKind.cell) else(p.1,p.2)).lookup x=some k->
  ∃k0,names.lookup x=some k0/\(k=k0\/(k0= .free/\k= .cell)):=by
  intro names
  induction names with
  | nil=>intro h;cases h
  | cons p r ih=>
   obtain⟨n,k'⟩:=p;intro h;rw[Aj] at h;by_cases hc:(k'==NameKind.free && env.scope.kind== .function && env.kindOf n==some .cell)=true
   . rw[if_pos hc] at h;rw[Bi] at h ⊢;cases hb:x==n with
     | true=>
      rw[hb] at h;cases h;have:k'= .free:=by cases k'<;>first | rfl | (simp at hc)
      exact⟨k',rfl,.inr ⟨this,rfl⟩⟩
     | false=> rw[hb] at h;exact ih h
   . rw[if_neg hc] at h;rw[Bi] at h ⊢;cases hb:x==n with
     | true=> rw[hb] at h;cases h;exact⟨k',rfl,.inl rfl⟩
     | false=> rw[hb] at h;exact ih h
 exact go scope.names h
theorem zdt{scope:Scope}{env:Env}{x:Str}(h:scope.names.lookup x=some .free):(relabel scope env).names.lookup x=some .cell\/(relabel scope env).names.lookup x=some .free:=by
 have go:∀(names:List (Str×NameKind)),names.lookup x=some .free->(names.map λ(p:Str×NameKind)=>if(p.2==NameKind.free && env.scope.kind== .function && env.kindOf p.1==some .cell) then(p.1,NameKind.cell) else(p.1,p.2)).lookup x=some .cell\/
  (names.map λ(p:Str×NameKind)=>if(p.2==NameKind.free && env.scope.kind== .function && env.kindOf p.1==some .cell) then(p.1,NameKind.cell) else(p.1,p.2)).lookup x=some .free:=by
  intro names
  induction names with
  | nil=>intro h;cases h
  | cons p r ih=>
   obtain⟨n,k'⟩:=p;intro h;rw[Aj];rw[Bi] at h;by_cases hc:(k'==NameKind.free && env.scope.kind== .function && env.kindOf n==some .cell)=true
   . rw[if_pos hc,Bi];cases hb:x==n with
     | true=>exact .inl rfl
     | false=> rw[hb] at h;exact ih h
   . rw[if_neg hc,Bi];cases hb:x==n with
     | true=> rw[hb] at h;exact .inr h
     | false=> rw[hb] at h;exact ih h
 exact go scope.names h
theorem MN:∀(names:List (Str×NameKind))(n:Nat)(acc:List (Str×Addr)),Bm n names acc=Bm n names []++acc
 | [],_,_=>rfl
 | (x,k)::r,n,acc=>by
  unfold Bm
  split
  . rw[MN r _ ((x,n)::acc),MN r _ [(x,n)],Cs];rfl
  . exact MN r n acc
theorem Ou{x:Str}{c:Addr}:∀(names:List (Str×NameKind))(n:Nat)(acc:List (Str×Addr)),(x,c)∈Bm n names acc->(x,NameKind.cell)∈names\/(x,c)∈acc
 | [],_,_,h=> .inr h
 | (y,k)::r,n,acc,h=>by
  unfold Bm at h
  split at h
  . rename_i hk;rcases Ou r _ _ h with z | z
    . exact .inl (Aw _ z)
    . rcases Ag.mp z with z | z
      . cases z;rw[show k= .cell from eq_of_beq hk];exact .inl AA
      . exact .inr z
  . rcases Ou r _ _ h with z | z
    . exact .inl (Aw _ z)
    . exact .inr z
structure OwnCells(scope:Scope)(cl0 cl:List (Str×Addr))(lo:Nat)(h₁:Heap):Prop where
 own:∀x c,cl.lookup x=some c->(scope.names.lookup x=some .cell->lo<c/\h₁.IsCell c none)/\(scope.names.lookup x≠some .cell->cl0.lookup x=some c)
 has:∀x,scope.names.lookup x=some .cell\/(cl0.lookup x).isSome=true->(cl.lookup x).isSome=true
 inj:∀x y c,scope.names.lookup x=some .cell->scope.names.lookup y=some .cell->cl.lookup x=some c->cl.lookup y=some c->x=y
theorem zcM{M:Model}{A:Ax}{E:Value->Shared->Prop}{s:Shared}{scope:Scope}{globals:Addr}{cl0:List (Str×Addr)}{qual:Str}{env:Env}{Q:Env->Shared->Prop}(ok:∀p∈scope.names,p.2= .cell->scope.names.lookup p.1=some .cell)
 (hQ:∀(cl:List (Str×Addr))(h₁:Heap),(∃m,h₁.Ns s.heap.objs.size m)->(∀b u,s.heap.get? b=some u->h₁.get? b=some u)->OwnCells scope cl0 cl s.heap.objs.size h₁->
  Q (newEnv scope s.heap.objs.size globals cl qual none .none (some env) builtinsNs) {s with heap:=h₁,toks:=s.toks+([]:List (Str×Value)).length}):
 wpAny M A (newFunctionEnv scope globals cl0 [] qual none .none (some env)) Q E s:=by
 simp only[newFunctionEnv,Option.isSome_some,if_true];refine Aa (wpAny_alloc ?_);refine Aa (wpAny_layCells _ (λname kind cells=>by cases hkc:kind==NameKind.cell<;>simp[hkc]) _ _ _ _ ?_);have ck:=cellsFrom_ok scope.names (s.heap.push {cls:= .type "dict",data:= .dict #[]}) (s.heap.objs.size+1) [] ⟨λ_ _ hm=>(nomatch hm),List.Pairwise.nil⟩ (by rw[Bu];exact Al _);rw[Bu] at ck;rw[show({s with heap:=s.heap.push {cls:= .type "dict",data:= .dict #[]}}:Shared).heap.objs.size=s.heap.objs.size+1 from Bu ..]
 rw[Eg];refine Aa (Ab (Ab ?_));rw[MN];refine hQ _ _ ⟨_,(Heap.Ns.new s.heap (.type "dict")).keeps (pushCells_keeps _ _)⟩ (λb o e=>pushCells_keeps _ _ b o (Ad _ e)) ?_;have lk:∀x,(Bm (s.heap.objs.size+1) scope.names []++cl0).lookup x=((Bm (s.heap.objs.size+1) scope.names []).lookup x).or (cl0.lookup x):=λx=>List.lookup_append;have cn:∀x c,(Bm (s.heap.objs.size+1) scope.names []).lookup x=some c->scope.names.lookup x=some .cell:=λx c e=>by
  rcases Ou _ _ _ (mem_of_lookup e) with z | z
  . exact ok _ z rfl
  . cases z
 refine⟨λx c e=>⟨λhx=>?_,λhx=>?_⟩,λx hx=>?_,λx y c hx hy e1 e2=>?_⟩
 . rw[lk] at e;have q:=Ck scope.names (s.heap.objs.size+1) [] (.inl hx);cases z:(Bm (s.heap.objs.size+1) scope.names []).lookup x with
   | none=>rw[z] at q;cases q
   | some c'=> rw[z] at e;cases e;have:=ck.empty _ _ (mem_of_lookup z);exact⟨this.2,this.1⟩
 . rw[lk] at e;cases z:(Bm (s.heap.objs.size+1) scope.names []).lookup x with
   | none=>rw[z] at e;exact e
   | some c'=>exact absurd (cn x c' z) hx
 . rw[lk];rcases hx with hx | hx
   . have q:=Ck scope.names (s.heap.objs.size+1) [] (.inl hx);cases z:(Bm (s.heap.objs.size+1) scope.names []).lookup x with
     | none=>rw[z] at q;cases q
     | some c'=>rfl
   . cases z:(Bm (s.heap.objs.size+1) scope.names []).lookup x with
     | none=>exact hx
     | some c'=>rfl
 . rw[lk] at e1 e2;have go:∀x,scope.names.lookup x=some .cell->((Bm (s.heap.objs.size+1) scope.names []).lookup x).or (cl0.lookup x)=some c->(x,c)∈Bm (s.heap.objs.size+1) scope.names []:=λx hx e=>by
    have q:=Ck scope.names (s.heap.objs.size+1) [] (.inl hx);cases z:(Bm (s.heap.objs.size+1) scope.names []).lookup x with
    | none=>rw[z] at q;cases q
    | some c'=>rw[z] at e;cases e;exact mem_of_lookup z
   exact name_of_addr ck.apart (go x hx e1) (go y hy e2)
section
variable{X:Cx}{pins:List (Addr×Obj)}{vl:List (D×Value)}{σ:Sd}{H:Hx}{s:Shared}
noncomputable def HS(scope:Scope)(cl:List (Str×Addr))(C:Addr):List Addr:=C::scope.names.filterMap λp=>if p.2= .cell then cl.lookup p.1 else none
theorem Inv.block{N':List Str}{js:Jn}{scope:Scope}{cl0 cl:List (Str×Addr)}{fp:List Addr}{h₁:Heap}{t':Nat}(ok:CapOk X N' js scope)(I:Inv X pins vl σ H s)
 (h2':∀x c,cl0.lookup x=some c->X.env.cells.lookup x=some c) (h3':∀p∈scope.names,p.2= .free->(cl0.lookup p.1).isSome=true)
 (hf:∀b∈fp,FpOk X pins H b) (k:∀b u,s.heap.get? b=some u->h₁.get? b=some u) (hn:∃m,h₁.Ns s.heap.objs.size m) (oc:OwnCells scope cl0 cl s.heap.objs.size h₁):
 Inv (GK X N' scope cl s.heap.objs.size s H fp) [] vl (HA js σ) (H.owns (HS scope cl s.heap.objs.size)) {s with heap:=h₁,toks:=t'}:=by
 have h2:∀x c,cl.lookup x=some c->(scope.names.lookup x=some .cell/\s.heap.objs.size<c/\h₁.IsCell c none)\/X.env.cells.lookup x=some c:=λx c e=>by
  by_cases hx:scope.names.lookup x=some .cell
  . exact .inl ⟨hx,(oc.own x c e).1 hx⟩
  . exact .inr (h2' x c ((oc.own x c e).2 hx))
 have h3:∀p∈scope.names,p.2= .free->(cl.lookup p.1).isSome=true:=λp hp e=>oc.has _ (.inr (h3' p hp e));have kind_of:∀x,((relabel scope X.env).names.lookup x=some .cell\/(relabel scope X.env).names.lookup x=some .free)->scope.names.lookup x=some .cell\/scope.names.lookup x=some .free:=λx hx=>by
  rcases hx with hx | hx
  . obtain⟨k0,e,z⟩:=RZ hx;rcases z with z | ⟨z,_⟩
    . subst z;exact .inl e
    . subst z;exact .inr e
  . obtain⟨k0,e,z⟩:=RZ hx;rcases z with z | ⟨z,z'⟩
    . subst z;exact .inr e
    . cases z'
 have clt:∀x c,X.env.cells.lookup x=some c->c<s.heap.objs.size:=λx c e=>let⟨v,hv⟩:=(I.cell x c e).1;hv.lt;have hlt:∀b∈fp,b<s.heap.objs.size:=λb hb=>As (I.hok.ow b b (hf b hb).1.2).2.choose_spec;have own:∀b∈HS scope cl s.heap.objs.size,s.heap.objs.size<=b/\∃o,h₁.get? b=some o:=λb hb=>by
  rcases Ag.mp hb with rfl | hb
  . obtain⟨m,o,_,_,e,_⟩:=hn;exact⟨Al _,o,e⟩
  . obtain⟨⟨x,c⟩,hp,e⟩:=By.mp hb
    split at e
    . rename_i q;obtain⟨l,o,e,_⟩:=(oc.own x b e).1 (ok.cells _ hp q);exact⟨BI l,o,e⟩
    . cases e
 have B:=I.born (t':=t') _ k own;have okc:(GK X N' scope cl s.heap.objs.size s H fp).Ok:=by
  refine⟨I.ok.mod,ok.kind,I.ok.glob,I.ok.blt,Al _,λx y c e1 e2=>?_,λx hx=>?_,λx c hx e=>?_,I.ok.hd,I.ok.frames,.inl rfl,λb hb=>⟨Ba (hlt b hb),λx c e=>?_,λhb'=>?_,(hf b hb).1⟩,I.bs,At I.ok.bsz I.sz,I.stack,λb hb=>⟨I.stkSo b hb,(I.hok.ow b b (I.stkSo b hb).2).2⟩⟩
  . rcases h2 x c e1 with⟨k1,l1,_⟩ | l1
    . rcases h2 y c e2 with⟨k2,l2,_⟩ | l2
      . exact oc.inj x y c k1 k2 e1 e2
      . exact absurd l1 (Nat.lt_asymm (clt y c l2))
    . rcases h2 y c e2 with⟨k2,l2,_⟩ | l2
      . exact absurd l2 (Nat.lt_asymm (clt x c l1))
      . exact I.ok.inj x y c l1 l2
  . have z:(cl.lookup x).isSome=true:=by
     rcases kind_of x hx with e | e
     . exact oc.has x (.inl e)
     . exact h3 _ (MF e) rfl
    cases q:cl.lookup x with
    | none=>rw[q] at z;cases z
    | some c=>exact⟨c,q⟩
  . exact BI ((oc.own x c e).1 (eq_of_beq hx)).1
  . rcases h2 x c e with⟨_,l,_⟩ | l
    . exact λz=>Nat.lt_asymm (hlt b hb) (z ▸ l)
    . exact(hf b hb).2.2.2.2.1 x c l
  . rcases Ag.mp (I.stkSub b hb') with z | z
    . exact(hf b hb).2.1 z
    . exact(hf b hb).2.2.1 z
 have bso:∀b∈HS scope cl s.heap.objs.size,(H.owns (HS scope cl s.heap.objs.size)).so b:=λb hb=>⟨(I.hok.fresh (own b hb).1).1,if_pos hb⟩;have so:∀b,H.so b->(H.owns (HS scope cl s.heap.objs.size)).so b:=λb n=>⟨n.1,by show(if _ then some b else H.ow b)=some b;split<;>first | rfl | exact n.2⟩
 have im:Im s.heap H h₁ (H.owns (HS scope cl s.heap.objs.size)):=λb u e f=>⟨k b u e,f.1,(if_neg λz=>by have:=As e;have:=(own b z).1;lia).trans f.2⟩;obtain⟨m,hn⟩:=hn;refine⟨okc,rfl,I.bare,⟨im,λb o e _ _ _=>k b o e,λb o e _ _ _=>⟨o.slots,k b o e⟩,λb o e n _=>so b n⟩,⟨m,hn,λi x v e1 e2 e3=>?_⟩,B.val,λx c e=>?_,bso _ AA,(λp hp=>nomatch hp),B.hok,by show(HA js σ).length=N'.length;unfold HA;rw[Ac];exact ok.len⟩
 . have e2:(HA js σ)[i]?=some (some v):=e2;unfold HA at e2;rw[AB] at e2;cases q:js[i]? with
   | none=>rw[q] at e2;cases e2
   | some o=>
    rw[q] at e2;cases o with
    | none=>cases e2
    | some j=>
     obtain⟨x',n1,n2,n3⟩:=ok.cap i j q;have e1:N'[i]?=some x:=e1;rw[n1] at e1;cases e1;have e2':σ[j]?=some (some v):=Nu (Bg e2);obtain⟨mo,hno,hlo⟩:=I.loc;have kx:=ok.free _ (MF n3) rfl;obtain⟨u,r,l⟩:=hlo j x v n2 e2' (kx.elim (λz=> .inr (.inl z)) λz=> .inr (.inr z));refine⟨u,r.im im,.inr ⟨zdt n3,?_⟩⟩;rcases l with⟨z,_⟩ | ⟨_,c,hc,hcell⟩
     . rcases kx with y | y<;>(rw[z] at y;cases y)
     . have z:=h3 _ (MF n3) rfl;cases q2:cl.lookup x with
       | none=>rw[q2] at z;cases z
       | some c'=>
        rcases h2 x c' q2 with⟨y,_⟩ | y
        . rw[n3] at y;cases y
        . rw[hc] at y;cases y;obtain⟨o,ho,hd⟩:=hcell;exact⟨c,q2,o,k _ _ ho,hd⟩
 . rcases h2 x c e with⟨y,l,q⟩ | y
   . exact⟨⟨_,q⟩,bso c (Aw _ (By.mpr ⟨(x,.cell),MF y,(if_pos rfl).trans e⟩))⟩
   . obtain⟨⟨v,o,ho,hd⟩,n⟩:=I.cell x c y;exact⟨⟨v,o,k _ _ ho,hd⟩,so c n⟩
end
noncomputable def OM(X:Cx)(xr:XR)(ifs:List Expr)(U:G1):Prop:=∀{pins vl s σ H k ex},Inv X pins vl σ H s->U σ H.hd k ex->(∀c h,ex c h->xr σ c h)->
 X.W (forIn ifs true λc r=>if r=true then do let ok <-isTrue c X.env (eval c X.env);pure (ForInStep.yield ok) else pure (ForInStep.yield r)) (TP X pins vl σ k) s
structure DIfs(X:Cx)(xr:XR)(ifs:List Expr)(U:G1):Prop where
 mk::
 run:OM X xr ifs U
instance {X:Cx} {xr:XR} {ifs:List Expr} {U:G1}:CoeFun (DIfs X xr ifs U) λ_=>OM X xr ifs U:=⟨DIfs.run⟩
noncomputable def HL:G1:=λ_ hd k _=>k true hd
theorem XQ{X:Cx}{xr:XR}:DIfs X xr [] HL:= .mk λI h _=>wpAny_tests_nil ⟨_,I,h⟩
theorem XS{X:Cx}{xr:XR}{c:Expr}{U:G1}(h:DT X xr c U):DIfs X xr [c] U:= .mk λI q hx=>wpAny_tests_one (h I q hx)
noncomputable abbrev MW(β:Type):=β->Sd->Hd->(β->Hd->Prop)->G9->Prop
noncomputable def J1{β:Type}(g:GT)(U:G1)(El:MW β)(e:G9)(C:Hd->Prop)(k:β->Hd->Prop):List D->Sd->β->Hd->Prop
 | [],_,b,h=>C h/\k b h
 | d::ds,σ,b,h=>C h/\g d σ h λσ2 h2=>U σ2 h2 (λt h3=>bif t then El b σ2 h3 (λb' h4=>J1 g U El e C k ds σ2 b' h4) e else J1 g U El e C k ds σ2 b h3) e
noncomputable def Nl(M:Model)(A:Ax)(tg:Expr)(ifs:List Expr)(env:Env)(it:Value)(Pu:(Shared->Prop)->Shared->Prop)(c:Code):Prop:=∀{R:Result->Shared->Prop}(I:Nat->Shared->Prop),(∀n s,I n s->wpAny M A (pyNext it) (λr s₁=>match r with
 | none=>R (.ok .next) s₁
 | some v=>wpAny M A (DH tg it v) (λ_ s₁'=>wpAny M A (assign tg env v) (λ_ s₂=>wpAny M A (forIn ifs true λc r=>if r=true then do let ok <-isTrue c env (eval c env);pure (ForInStep.yield ok) else pure (ForInStep.yield r)) (λok s₃=> if ok=true then Pu (λs₅=>∃m,m<n/\I m s₅) s₃ else ∃m,m<n/\I m s₃) (λ_ _=>False) s₂) (λ_ _=>False) s₁') (λ_ _=>False) s₁) (λ_ _=>False) s)->∀n s,I n s->codeAny M A c R s
section
variable{prog:AM}{w:World}{A:Ax}{tg iter:Expr}{ifs:List Expr}{scope:Scope}{pos:Pos}{it:Value}{env:Env}
noncomputable def Tx(M:Model)(A:Ax)(elt:Expr)(env:Env)(acc:Value)(Q:Shared->Prop)(s:Shared):Prop:=wpAny M A (eval elt env) (λx s₄=>wpAny M A (call (.builtin "list.append") [acc,x]) (λ_ s₅=>Q s₅) (λ_ _=>False) s₄) (λ_ _=>False) s
theorem Yp{elt:Expr}{acc:Value}:Nl (model prog w) A tg ifs env it (Tx (model prog w) A elt env acc) (.compLoop (.ListComp elt [⟨tg,iter,ifs,0⟩] scope pos) 0 it acc env):=by
 intro R I turn n s h;refine codeAny_loop rfl I (λn s hI=>?_) n h;show wpAny _ A ((compTurn (.ListComp elt [⟨tg,iter,ifs,0⟩] scope pos) 0 it acc env).onRaise (λx=>do noteFrame x env;theTreesLotGoes x)) _ _ s
 refine wpAny_noted ?_;rw[compTurn_list];refine Aa (Cp (Aa (AO (turn n s hI) (λr s₁ h₁=>?_) λ_ _ h'=>h'.elim)));cases r with
 | none=>exact Ab h₁
 | some v=>
  refine Aa (AO h₁ (λ_ s₁' h₁'=>?_) λ_ _ h'=>h'.elim);refine Aa (AO h₁' (λ_ s₂ h₂=>Aa (AO h₂ (λok s₃ h₃=>?_) λ_ _ h'=>h'.elim)) λ_ _ h'=>h'.elim);cases ok with
  | false=>exact Ab ⟨rfl,h₃⟩
  | true=>exact Aa (Aa (AO h₃ (λx s₄ h₄=>Aa (AO h₄ (λ_ s₅ h₅=>Ab (Ab ⟨rfl,h₅⟩)) λ_ _ h'=>h'.elim)) λ_ _ h'=>h'.elim))
noncomputable def OK(M:Model)(A:Ax)(kx vx:Expr)(env:Env)(D:Addr)(Q:Shared->Prop)(s:Shared):Prop:=wpAny M A (eval kx env) (λkv s₄=>wpAny M A (eval vx env) (λvv s₅=>wpAny M A (dictSet D kv vv) (λ_ s₆=>Q s₆) (λ_ _=>False) s₅) (λ_ _=>False) s₄) (λ_ _=>False) s
theorem Yo{kx vx:Expr}{D:Addr}:Nl (model prog w) A tg ifs env it (OK (model prog w) A kx vx env D) (.compLoop (.DictComp kx vx [⟨tg,iter,ifs,0⟩] scope pos) 0 it (.ref D) env):=by
 intro R I turn n s h;refine codeAny_loop rfl I (λn s hI=>?_) n h;show wpAny _ A ((compTurn (.DictComp kx vx [⟨tg,iter,ifs,0⟩] scope pos) 0 it (.ref D) env).onRaise (λx=>do noteFrame x env;theTreesLotGoes x)) _ _ s
 refine wpAny_noted ?_;rw[compTurn_dict];refine Aa (Cp (Aa (AO (turn n s hI) (λr s₁ h₁=>?_) λ_ _ z=>z.elim)));cases r with
 | none=>exact Ab h₁
 | some v=>
  refine Aa (AO h₁ (λ_ s₁' h₁'=>?_) λ_ _ z=>z.elim);refine Aa (AO h₁' (λ_ s₂ h₂=>Aa (AO h₂ (λok s₃ h₃=>?_) λ_ _ z=>z.elim)) λ_ _ z=>z.elim);cases ok with
  | false=>exact Ab ⟨rfl,h₃⟩
  | true=>exact Aa (Aa (AO h₃ (λkv s₄ h₄=>Aa (Av (AO h₄ (λvv s₅ h₅=>Aa (Cp (Av (AO h₅ (λ_ s₆ h₆=>Ab ⟨rfl,h₆⟩) λ_ _ z=>z.elim)))) λ_ _ z=>z.elim))) λ_ _ z=>z.elim))
end
noncomputable def Mq{β:Type}(X:Cx)(held:β->List D)(rep:β->List Value->Obj->Prop)(sz:β->Nat)(El:MW β)(Pu:Addr->(Shared->Prop)->Shared->Prop):Prop:=
 ∀{p pins vl s σ H b us o}{N:β->Hd->Prop}{Q:Shared->Prop},Inv X ((p,o)::pins) ((held b).zip us++vl) σ H s->rep b us o->(held b).length=us.length->sz b<An->FpOk X pins H p->El b σ H.hd N (λ_ _=>False)->
  (∀{s' b' us' o' H'},Inv X ((p,o')::pins) ((held b').zip us'++vl) σ H' s'->rep b' us' o'->(held b').length=us'.length->sz b'<=sz b+1->N b' H'.hd->Q s')->Pu p Q s
section
variable{X:Cx}{pins:List (Addr×Obj)}{vl va vb:List (D×Value)}{σ:Sd}{H:Hx}{s:Shared}
theorem Inv.swap(I:Inv X pins (va++(vb++vl)) σ H s):Inv X pins (vb++(va++vl)) σ H s:=I.sub λp h=>by simp at h ⊢;grind
variable{β:Type}{held:β->List D}{rep:β->List Value->Obj->Prop}{sz:β->Nat}{El:MW β}{b0:β}{o0:Obj}{tg:Expr}{ifs:List Expr}{js:Jn}{g:GT}{U:G1}{N':List Str}{scope:Scope}{code:Expr}
theorem Qn{l:List Addr}{b:Addr}(n:H.so b):(H.owns l).so b:=⟨n.1,by show(if _ then some b else H.ow b)=some b;split<;>first | rfl | exact n.2⟩
inductive CpEnd(X:Cx)(pins:List (Addr×Obj))(vl:List (D×Value))(σ:Sd)(held:β->List D)(rep:β->List Value->Obj->Prop)(sz:β->Nat)(k:β->Hd->Prop)(acc:Value)(C:Addr)(s':Shared):Prop
 | mk (n:∃m,s'.heap.Ns C m) (p:Addr) (b:β) (us:List Value) (o:Obj) (H':Hx) (ea:acc= .ref p) (i:Inv X pins ((held b).zip us++vl) σ H' s') (l:(held b).length=us.length) (e:s'.heap.get? p=some o) (r:rep b us o) (z:sz b<=An) (f:FpOk X pins H' p) (c:FpOk X pins H' C) (ne:p≠C) (q:k b H'.hd)
theorem QR{vs:List (D×Value)}{T:List D}{C:Hd->Prop}{k:β->Hd->Prop}{it:Addr}{fp:List Addr}{tn:Nat->Heap->Prop}{cl:List (Str×Addr)}{Pu:Env->Addr->(Shared->Prop)->Shared->Prop}{E:Value->Shared->Prop}
 (hc:X.calm=true) (ok:CapOk X N' js scope) (h2:∀x c,cl.lookup x=some c->X.env.cells.lookup x=some c) (h3:∀p∈scope.names,p.2= .free->(cl.lookup p.1).isSome=true)
 (hg:∀cl C s₀ H₀ ex,DG (GK X N' scope cl C s₀ H₀ ex) tg g) (ht:∀cl C s₀ H₀ ex,DIfs (GK X N' scope cl C s₀ H₀ ex) GV ifs U)
 (r0:rep b0 [] o0) (hb0:held b0=[]) (z0:sz b0=0) (hf0:o0.isFreed=false) (nc:∀b us o,rep b us o->∀v,o.data≠ .cell v)
 (put:∀cl C s₀ H₀ ex,Mq (GK X N' scope cl C s₀ H₀ ex) held rep sz El (Pu (compEnvC scope cl C X.env)))
 (loop:∀env it p,Nl (model X.prog X.w) X.A tg ifs env it (Pu env p) (.compLoop code 0 it (.ref p) env))
 (start:∀{env acc R s},codeAny (model X.prog X.w) X.A (.compLoop code 0 (.ref it) acc env) R s->wpAny (model X.prog X.w) X.A (pyIter (.ref it)) (λit' s'=>codeAny (model X.prog X.w) X.A (.compLoop code 0 it' acc env) R s') (λ_ _=>False) s->codeAny (model X.prog X.w) X.A (.compStart code 0 (.ref it) acc env) R s)
 (I:Inv X pins (vs++vl) σ H s) (Tn:Turn X.ev tg T C vs fp it tn) (st:tn 0 s.heap) (hf:∀b∈fp,FpOk X pins H b) (lz:T.length<=An) (q:J1 g U El (λ_ _=>False) C k T (HA js σ) b0 H.hd):
 wpAny (model X.prog X.w) X.A (newFunctionEnv scope X.env.globals cl [] X.env.qual none .none (some X.env)) (λcenv s₄=>codeAny (model X.prog X.w) X.A (.compStart code 0 (.ref it) (.ref s.heap.objs.size) {cenv with scope:=relabel scope X.env})
  (λr s'=>r= .ok .next/\CpEnd X pins vl σ held rep sz k (.ref s.heap.objs.size) cenv.locals s') s₄) E {s with heap:=s.heap.push o0}:=by
 generalize hp:s.heap.objs.size=p;have kp:∀b u,s.heap.get? b=some u->(s.heap.push o0).get? b=some u:=λb u e=>Ad _ e;have hep:(s.heap.push o0).get? p=some o0:=by rw[<-hp];exact Ak _ hf0
 have lp:∀b∈[p],s.heap.objs.size<=b/\∃o,(s.heap.push o0).get? b=some o:=λb hb=>by cases Af.mp hb;exact⟨DL hp,_,hep⟩
 have I3:=I.born (t':=s.toks) [p] kp lp;have f3:∀b∈p::fp,FpOk X pins (H.owns [p]) b:=λb hb=>by
  rcases Ag.mp hb with rfl | hb
  . exact I.fpOk (DL hp) ⟨(I.hok.fresh (DL hp)).1,if_pos (by simp)⟩
  . refine(hf b hb).of ⟨(hf b hb).1.1,?_⟩;show(if b∈[p] then some b else H.ow b)=some b
    split
    . rfl
    . exact(hf b hb).1.2
 have pf:p ∉ fp:=λz=>by have:=As (I.hok.ow p p (hf p z).1.2).2.choose_spec;lia
 have st3:tn 0 (s.heap.push o0):=Tn.keep _ _ _ st λb _ o e=>kp b o e;generalize hs3:({s with heap:=s.heap.push o0}:Shared)=s3 at*
 have eh:s3.heap=s.heap.push o0:=by rw[<-hs3]
 rw[<-eh] at st3 hep;refine zcM ok.cells λcl h₁ hns₁ k4 oc=>?_;have I4:=I3.block (cl:=cl) (h₁:=h₁) (t':=s3.toks+([]:List (Str×Value)).length) ok h2 h3 f3 k4 hns₁ oc;have st4:tn 0 h₁:=Tn.keep _ _ _ st3 λb _ o e=>k4 b o e;have hg':DG _ tg g:=hg cl s3.heap.objs.size s3 (H.owns [p]) (p::fp);have ht':DIfs _ GV ifs U:=ht cl s3.heap.objs.size s3 (H.owns [p]) (p::fp);have put':Mq _ held rep sz El (Pu (compEnvC scope cl s3.heap.objs.size X.env)):=put cl s3.heap.objs.size s3 (H.owns [p]) (p::fp);generalize hX:GK X N' scope cl s3.heap.objs.size s3 (H.owns [p]) (p::fp)=X' at I4 hg' ht' put';have eV:X'.ev=X.ev:=by rw[<-hX];rfl
 have ec:X'.calm=true:=by rw[<-hX];exact hc
 have eM:X'.A=X.A/\X'.prog=X.prog/\X'.w=X.w/\X'.xe=(λ_ _=>False)/\X'.env=compEnvC scope cl s3.heap.objs.size X.env/\X'.ex=p::fp/\X'.pn=[]:=by rw[<-hX];exact⟨rfl,rfl,rfl,rfl,rfl,rfl,rfl⟩
 obtain⟨eA,eP,ew,ex,eE,eEx,eN⟩:=eM;have okc:=I4.ok;have stat:∀{pins' H' b},b∈p::fp->H'.so b->(∀q∈pins',q.1≠b)->FpOk X' pins' H' b:=λ{pins' H' b}hb hn hq=>by obtain⟨x1,x2,x3,_⟩:=okc.exf b (by rw[eEx];exact hb);exact⟨hn,x1,x3,.inl (by rw[eEx];exact hb),x2,by rw[eN];exact hq⟩
 have main:codeAny (model X.prog X.w) X.A (.compLoop code 0 (.ref it) (.ref p) (compEnvC scope cl s3.heap.objs.size X.env)) (λr s'=>r= .ok .next/\CpEnd X pins vl σ held rep sz k (.ref p) s3.heap.objs.size s') {s3 with heap:=h₁,toks:=s3.toks+([]:List (Str×Value)).length}:=by
  refine loop _ _ _ (λn s'=>∃i σ' b us o H',Inv X' [(p,o)] (vs++((held b).zip us++vl)) σ' H' s'/\tn i s'.heap/\(∀b∈p::fp,H'.so b)/\rep b us o/\(held b).length=us.length/\sz b<=i/\n=T.length - i/\i<=T.length/\J1 g U El (λ_ _=>False) C k (T.drop i) σ' b H'.hd) ?_ T.length _
   ⟨0,_,b0,[],o0,(H.owns [p]).owns (HS scope cl s3.heap.objs.size),?_,st4,?_,r0,by rw[hb0];rfl,by lia,rfl,AK _,q⟩
  . rintro n s5 ⟨i,σ5,b,us,o,H5,I5,st5,so5,rp,lh,zi,hn,hi,q5⟩;have ff:∀c∈fp,FpOk X' [(p,o)] H5 c:=λc hc=>stat (Aw _ hc) (so5 c (Aw _ hc)) λq hq=>by cases Af.mp hq;rintro rfl;exact pf hc
    cases ed:T[i]? with
    | none=>
     have ei:i=T.length:=by have:=Df.mp ed;lia
     subst ei;rw[E9] at q5;have D:=Tn.done eV ec I5 ff st5 q5.1;unfold Cx.W at D;rw[eP,ew,eA,ex] at D;refine FO D λr s6 ⟨hr,I6⟩=>?_;subst hr;have pn:=I6.pin (p,o) (by simp);have eC:X'.env.locals=s3.heap.objs.size:=by rw[eE];rfl
     have I7:Inv X pins (vs++vl) σ (H5.drop fp) s6:=by have b6:=I6.base;have ho:=I6.os;have hk:=I6.hok;have hb:=I6.bare;subst hX;exact I3.call (ch:=p::fp) ho b6 hk hb λc hc=>let⟨_,g1,_,g3,g4,g5⟩:=f3 c hc;⟨g3,g1,g4,g5⟩
     refine⟨rfl,let⟨m,hm,_⟩:=I6.loc;⟨m,eC ▸ hm⟩,p,b,us,o,_,rfl,I7.sout.hold (PW lh λq hq=>?_),lh,pn.1,rp,by lia,(f3 p (by simp)).of pn.2.1,I3.fpOk (Al _) (eC ▸ I6.free),λz=>(okc.exf p (by rw[eEx];simp)).1 (z.trans eC.symm),q5.2⟩;exact eV ▸ I6.val q (Am _ (A1 _ hq))
    | some d=>
     rw[Qq ed] at q5;have D:=Tn.item eV ec I5 ff st5 q5.1 ed;unfold Cx.W at D;rw[eP,ew,eA,ex] at D;refine FO D λr s6 ⟨u,hr,h6⟩=>?_;subst hr;refine FO h6 λ_ s7 ⟨I7,st7⟩=>?_;have G:=hg' (I7.pinned ff (Tn.obj _ _ st7)) q5.2;unfold Cx.W at G;rw[eP,ew,eA,ex,eE] at G;refine FO G λ_ s8 ⟨σ8,H8,I8,q8⟩=>?_;have G:=ht' I8 q8 λ_ _ z=>z;unfold Cx.W at G;rw[eP,ew,eA,ex,eE] at G;refine FO G λt s9 ⟨H9,I9,q9⟩=>?_;have l:=(Ar.mp ed).1;have again:∀{s' b' us' o' H'},Inv X' ((p,o')::Kh fp s7.heap) (vs++((held b').zip us'++vl)) σ8 H' s'->rep b' us' o'->(held b').length=us'.length->sz b'<=i+1->J1 g U El (λ_ _=>False) C k (T.drop (i+1)) σ8 b' H'.hd->
      ∃m,m<n/\∃i σ' b us o H',Inv X' [(p,o)] (vs++((held b).zip us++vl)) σ' H' s'/\tn i s'.heap/\(∀b∈p::fp,H'.so b)/\rep b us o/\(held b).length=us.length/\sz b<=i/\m=T.length - i/\i<=T.length/\J1 g U El (λ_ _=>False) C k (T.drop i) σ' b H'.hd:=λ{s' b' us' o' H'}I' rp' lh' z' q'=>by
      obtain⟨st',so'⟩:=Tn.next (pins:=[(p,o')]) st7 I';refine⟨T.length - (i+1),by lia,i+1,σ8,b',us',o',H',Inv.unpinned (pins:=[(p,o')]) I',st',λc hc=>?_,rp',lh',z',rfl,l,q'⟩;rcases Ag.mp hc with rfl | hc
      . exact(I'.pin (c,o') (by simp)).2.1
      . exact so' c hc
     cases t with
     | false=>exact again I9 rp lh (by lia) q9
     | true=> have pn:=I9.pin (p,o) (by simp);show Pu _ _ _ _;exact put' (p:=p) (N:=λb' h4=>J1 g U El (λ_ _=>False) C k (T.drop (i+1)) σ8 b' h4) (pins:=Kh fp s7.heap) (vl:=vs++vl) I9.swap rp lh (by lia) (stat (by simp) pn.2.1 λq hq=>by have:=(Rp hq).1;rintro rfl;exact pf this) q9 λI' rp' lh' z' q'=>again I'.swap rp' lh' (by lia) q'
  . have pn:((H.owns [p]).owns (HS scope cl s3.heap.objs.size)).so p:=Qn (f3 p (by simp)).1;rw[hb0];refine I4.pins_of λq hq=>?_;cases Af.mp hq;obtain⟨x1,x2,x3,_⟩:=okc.exf p (by rw[eEx];simp);exact⟨k4 _ _ hep,pn,x1,x3,nc _ _ _ r0⟩
  . exact λb hb=>Qn (f3 b hb).1
 exact start main (Tn.self st4 main)
end
section
variable{X:Cx}{pins:List (Addr×Obj)}{vl:List (D×Value)}{σ:Sd}{H:Hx}{s:Shared}{p a:Addr}{ds:List D}{us:List Value}{n:Nat}
noncomputable def Hx.take(H:Hx)(p:Addr)(o:OD):Hx:=⟨put H.hd p o,λb=>if b=p then none else H.ow b⟩
theorem Im.take{h:Heap}{o:OD}(f:H.so p):Im h H h (H.take p o):=λb u q g=>⟨q,(FR λz=>by cases f.2.symm.trans (z ▸ g.2)).trans g.1,by show(if b=p then none else H.ow b)=none;split<;>first | rfl | exact g.2⟩
theorem Inv.take{o:OD}(I:Inv X pins vl σ H s)(f:FpOk X pins H p)(new:OkO X.ev s.heap (H.take p o) p o):Inv X pins vl σ (H.take p o) s:=by
 obtain⟨so,h1,_,h3,h4,h5⟩:=f;have no:∀{b y},b≠p->H.ow b=y->(H.take p o).ow b=y:=λn e=>(if_neg n).trans e;refine I.step (h':=s.heap) (g':=s.gens) (t':=s.toks) (d':=s.drawn) (ch:=[p]) (λb hb=>by cases Af.mp hb;exact⟨h3,h1,h4,h5⟩) (.take so) (λb _ hc _ n=>?_) (λb o _ _ _ e _=>e) (λb o _ _ _ e _=>⟨o.slots,e⟩) (λm e=>e) ⟨λb q eb=>?_,λb y q=>?_⟩ I.bare
 . have hc:b≠p:=by simpa using hc
   exact⟨(FR hc).trans n.1,no hc n.2⟩
 . by_cases nb:b=p
   . subst nb;cases(put_same.symm.trans eb);exact new
   . have eb:=(FR nb).symm.trans eb;exact(I.hok.at' b q eb).stay (.take so) (λ_ _ _ q=>q) λc z=>no (λw=>nb (by rw[w,so.2] at z;exact(Bg z).symm)) z
 . have hb:b≠p:=λz=>by subst z;cases(show none=some y from(if_pos rfl).symm.trans q)
   obtain⟨z,r⟩:=I.hok.ow b y ((if_neg hb).symm.trans q);exact⟨(FR hb).trans z,r⟩
inductive NP(X:Cx)(pins:List (Addr×Obj))(vl:List (D×Value))(σ:Sd)(k:List D->Hd->Prop)(u:Value)(s':Shared):Prop
 | mk (ds:List D) (p:Addr) (us:List Value) (n:Nat) (H':Hx) (eu:u= .ref p) (i:Inv X pins (ds.zip us++vl) σ H' s') (l:ds.length=us.length) (e:HY s'.heap p us n) (z:ds.length<=An) (f:FpOk X pins H' p) (q:k ds H'.hd)
noncomputable def T7(X:Cx)(xr:XR)(e:Expr)(T:G6):Prop:=∀{pins vl s σ H k ex},Inv X pins vl σ H s->T σ H.hd k ex->(∀c h,ex c h->xr σ c h)->X.W (eval e X.env) (NP X pins vl σ k) s
structure DN(X:Cx)(xr:XR)(e:Expr)(T:G6):Prop where
 mk::
 run:T7 X xr e T
instance {X:Cx} {xr:XR} {e:Expr} {T:G6}:CoeFun (DN X xr e T) λ_=>T7 X xr e T:=⟨DN.run⟩
noncomputable def FY(T:G6):TD:=λσ hd k e=>T σ hd (λxs h1=>k (.lst xs) h1) e
noncomputable def Iq(T:G6):TD:=λσ hd k e=>T σ hd (λxs h1=>∀p,h1 p=none->k (.ref p) (put h1 p (.lst xs))) e
noncomputable def Mz(T:TD):TD:=λσ hd k e=>T σ hd (λd h1=>match d with | .ref p=>(match h1 p with | some (.lst xs)=>k (.lst xs) (cut h1 p) | _=>False) | _=>False) e
noncomputable def Cv(c:(DK)->List D->Hd->Prop):Prop:=∀{X pins vl σ k H s p us n ds},Inv X pins (ds.zip us++vl) σ H s->ds.length=us.length->HY s.heap p us n->ds.length<=An->FpOk X pins H p->c k ds H.hd->∃d H',Inv X pins ((d,.ref p)::vl) σ H' s/\(∀b,b≠p->H.so b->H'.so b)/\k d H'.hd
noncomputable abbrev UA:DK->List D->Hd->Prop:=λk xs h=>k (.lst xs) h
noncomputable abbrev U9:DK->List D->Hd->Prop:=λk xs h=>∀p,h p=none->k (.ref p) (put h p (.lst xs))
theorem Px:Cv UA:=λ{X pins vl σ k H s p us n ds}I l e z f q=>by have I1:=I.ended (h':=s.heap) (t':=s.toks) (fp:=[p]) (λb hb=>by cases Af.mp hb;exact f) λ_ _ _ e=>e;refine⟨.lst ds,_,I1.out.cons (.lst ⟨⟨f.1.1,if_pos (by simp)⟩,l ▸ z,_,n,e,rfl,rfl,rfl,λ_=>rfl⟩ (I1.vals l)),λb nb so=>⟨so.1,(if_neg (by simpa using nb)).trans so.2⟩,q⟩
theorem Pw:Cv U9:=λ{X pins vl σ k H s p us n ds}I l e z f q=>by refine⟨.ref p,_,(I.out.take f (o:= .lst ds) ⟨us,n,z,(I.vals l).im (.take f.1),e⟩).cons (.ref p),λb nb so=>⟨(FR nb).trans so.1,(if_neg nb).trans so.2⟩,q p f.1.1⟩
theorem Inv.fresh{k:List D->Hd->Prop}{t:Nat}(I:Inv X pins vl σ H s)(r:Rvs X.ev s.heap H ds us)(z:ds.length<=An)(q:k ds H.hd):NP X pins vl σ k (.ref s.heap.objs.size) {s with heap:=s.heap.push {cls:= .type "list",data:= .seq us.toArray},toks:=t}:=by
 have I1:=(I.hold r).born (t':=t) [s.heap.objs.size] (λb u e=>Ad {cls:= .type "list",data:= .seq us.toArray} e) λb hb=>by cases Af.mp hb;exact⟨Al _,_,Ak _ rfl⟩
 exact⟨ds,_,us,_,_,rfl,I1,r.length,Ak _ rfl,z,I.fpOk (Al _) ⟨(I.hok.fresh (Al _)).1,if_pos (by simp)⟩,q⟩
end
section
variable{X:Cx}{xr:XR}{e:Expr}{T:G6}{Ta:TD}{es:List Expr}{pos:Pos}
theorem OS{c:DK->List D->Hd->Prop}(cv:Cv c)(h:DN X xr e T):DE X xr e (λσ hd k e=>T σ hd (c k) e):= .mk λI q hx=>FO (h I q hx) λ_ _ ⟨_,_,_,_,_,eu,I1,l,e,z,f,q⟩=>let⟨d,H',I2,_,q⟩:=cv I1 l e z f q;⟨d,H',eu ▸ I2,q⟩
theorem UF(h:DN X xr e T):DE X xr e (FY T):=OS Px h
theorem UE(h:DN X xr e T):DE X xr e (Iq T):=OS Pw h
theorem XK(h:DE X xr e Ta):DE X xr e (Mz Ta):= .mk λI q hx=>FO (h I q hx) λu s1 ⟨d,H,I1,q⟩=>by
 cases d with
 | ref p=>
  dsimp only at q;cases e1:H.hd p with
  | none=>rw[e1] at q;exact q.elim
  | some od=>
   rw[e1] at q;cases od with
   | lst xs=>
    cases I1.hv.r;obtain⟨us,n,z,r,e⟩:=I1.hok.at' p _ e1;have l:Le (cut H.hd p) H.hd:= .cut;refine⟨.lst xs,_,(I1.tl.less l).cons (.lst ⟨⟨NJ,?_⟩,r.length ▸ z,_,n,e,rfl,rfl,rfl,λ_=>rfl⟩ (r.im (H':=H.to (cut H.hd p)) λb u q f=>⟨q,l.none f.1,f.2⟩)),q⟩;cases eo:H.ow p with
    | none=>rfl
    | some y=>cases e1.symm.trans (I1.hok.ow p y eo).1
   | _=>exact q.elim
 | _=>exact q.elim
theorem US(h:DA X xr es T):DN X xr (.List es pos) (λσ hd k e=>T σ hd (λxs h1=>sz 1000 xs (k xs h1)) e):= .mk λI q hx=>wpAny_List_spliced (FO (h pos I q hx) λus s1 ⟨ds,H1,I1,l,q⟩=>⟨by rw[<-l];exact Lc (Kl q).1,I1.out.fresh (I1.vals l) (Lc (Kl q).1) (Kl q).2⟩)
end
theorem Qj{prog:AM}{w:World}{A:Ax}{E:Value->Shared->Prop}{s:Shared}{p:Addr}{us:List Value}{n:Nat}{x:Value}{Q:Value->Shared->Prop}(e:HY s.heap p us n)(z:us.length<=An)(fin:∀h' m,AU p s.heap h'->HY h' p (us++[x]) m->Q .none {s with heap:=h'}):
 wpAny (model prog w) A (call (.builtin "list.append") [.ref p,x]) Q E s:=by
 have q:=EA e λy=>y.push x;rw[show us.toArray.push x=(us++[x]).toArray by simp] at q;exact call_meets F.slot_list_append ⟨_,e,rfl⟩ F.entry_list_append (F.args_list_append_2 _ _) (PySem.list_append p us.toArray n x (by simpa using z)) ⟨e,fin _ _ (.update ..) q⟩
noncomputable abbrev HK(g:GT)(U:G1)(Te:TD)(e:G9)(C:Hd->Prop)(k:List D->Hd->Prop):List D->Sd->List D->Hd->Prop:=J1 g U (λacc σ h N e=>Te σ h (λy h4=>N (acc++[y]) h4) e) e C k
noncomputable def Hq(T:IC)(js:Jn)(g:GT)(U:G1)(Te:TD):G6:=λσ hd k e=>T σ hd (λds C h1=>HK g U Te (λ_ _=>False) C k ds (HA js σ) [] h1) e
section
variable{X:Cx}{xr:XR}{tg iter elt:Expr}{ifs:List Expr}{T:IC}{js:Jn}{g:GT}{U:G1}{Te:TD}{N':List Str}{scope:Scope}{pos:Pos}
theorem Inv.turn1{pins:List (Addr×Obj)}{vl:List (D×Value)}{σ:Sd}{H:Hx}{s:Shared}{h':Heap}{t':Nat}{p:Addr}{o o':Obj}(I:Inv X ((p,o)::pins) vl σ H s)(f:FpOk X pins H p)(sb:AU p s.heap h')(e:h'.get? p=some o')(nc:∀v,o'.data≠ .cell v):Inv X ((p,o')::pins) vl σ H {s with heap:=h',toks:=t'}:=by
 have I1:Inv X pins vl σ H s:=I.pins_of λq hq=>I.pin q (Am _ (Aw _ hq));have I2:=I1.turned (t':=t') (fp:=[p]) (λb hb=>by cases Af.mp hb;exact f) (λb u hb e=>(sb.2 b (by simpa using hb)).trans e) λb hb=>by cases Af.mp hb;exact⟨_,e⟩
 refine I2.pins_of λq hq=>?_;rcases Ag.mp hq with rfl | hq
 . exact⟨e,f.1,f.2.1,f.2.2.1,nc⟩
 . exact I2.pin q (Am _ hq)
theorem Xt(he:DE X GV elt Te)(hx:X.xe=λ_ _=>False):Mq X id (λ_ us o=>∃n,o={cls:= .type "list",data:= .seq us.toArray n}) List.length (λacc σ h N e=>Te σ h (λy h4=>N (acc++[y]) h4) e) (λp=>Tx (model X.prog X.w) X.A elt X.env (.ref p)):=
 λ{p pins vl s σ H b us o N Q}I ⟨n,eo⟩ l z f q fin=>by
  have E:=he I q λ_ _ z=>z;unfold Cx.W at E;rw[hx] at E;refine FO E λu s1 ⟨y,H1,I1,q⟩=>?_;have pn:=I1.pin (p,o) (by simp);subst eo;have l':b.length=us.length:=l;refine Qj pn.1 (by lia) λh' m sb e=>fin (b':=b++[y]) (us':=us++[u]) ((I1.turn1 (t':=s1.toks) (f.of pn.2.1) sb e nofun).sub λr hr=>?_) ⟨m,rfl⟩ (by simp[l']) (by simp) q;show r∈(y,u)::(b.zip us++vl);have hr:r∈(b++[y]).zip (us++[u])++vl:=hr;rw[List.zip_append l'] at hr;simp at hr ⊢
  grind
theorem Y6{β:Type}{b:β}{us:List Value}{o:Obj}(r:∃n,o={cls:= .type "list",data:= .seq us.toArray n})(v:Option Value):o.data≠ .cell v:=by obtain⟨n,rfl⟩:=r;nofun
theorem PA{pins vl s σ H k ex}{cl:List (Str×Addr)}(hc:X.calm=true)(ok:CapOk X N' js scope)(hi:DI X xr tg iter T)
 (hg:∀cl C s₀ H₀ ex,DG (GK X N' scope cl C s₀ H₀ ex) tg g) (ht:∀cl C s₀ H₀ ex,DIfs (GK X N' scope cl C s₀ H₀ ex) GV ifs U) (he:∀cl C s₀ H₀ ex,DE (GK X N' scope cl C s₀ H₀ ex) GV elt Te)
 (h2:∀x c,cl.lookup x=some c->X.env.cells.lookup x=some c) (h3:∀p∈scope.names,p.2= .free->(cl.lookup p.1).isSome=true)
 (I:Inv X pins vl σ H s) (h:Hq T js g U Te σ H.hd k ex) (hx:∀c h,ex c h->xr σ c h):
 X.W (eval iter X.env) (λv s1=>X.W (pyIter v) (λit s2=>X.W (newList []) (λacc s3=>X.W (newFunctionEnv scope X.env.globals cl [] X.env.qual none .none (some X.env)) (λcenv s4=>codeAny (model X.prog X.w) X.A (.compStart (.ListComp elt [⟨tg,iter,ifs,0⟩] scope pos) 0 it acc {cenv with scope:=relabel scope X.env})
  (λr s'=>r= .ok .next/\CpEnd X pins vl σ (id:List D->List D) (λ_ us o=>∃n,o={cls:= .type "list",data:= .seq us.toArray n}) List.length k acc cenv.locals s') s4) s3) s2) s1) s:=
 FO (hi I h hx) λv s1 h1=>FO h1 λitv s2 ⟨it,src,fp,tn,ds,C,H2,e,I2,T,st2,f2,z,q⟩=>by subst e;refine Bd ?_ (by show 0<=An;decide);exact QR (b0:=[]) hc ok h2 h3 hg ht ⟨0,rfl⟩ rfl rfl rfl (λb us o r=>Y6 (b:=b) r) (λcl C s₀ H₀ ex=>Xt (he cl C s₀ H₀ ex) rfl) (λenv it p=>Yp) (λa b=>codeAny_compStart_list a (AO b (λ_ _ q=>q) λ_ _ z=>z.elim)) I2 T st2 f2 z q
theorem Uy(hc:X.calm=true)(ok:CapOk X N' js scope)(hi:DI X xr tg iter T)
 (hg:∀cl C s₀ H₀ ex,DG (GK X N' scope cl C s₀ H₀ ex) tg g) (ht:∀cl C s₀ H₀ ex,DIfs (GK X N' scope cl C s₀ H₀ ex) GV ifs U) (he:∀cl C s₀ H₀ ex,DE (GK X N' scope cl C s₀ H₀ ex) GV elt Te)
 (hs:∀x,Cc iter X.env x=pure x:=by intro _;rfl):DN X xr (.ListComp elt [⟨tg,iter,ifs,0⟩] scope pos) (Hq T js g U Te):= .mk λ{pins vl s σ H k ex}I h hx=>by
 obtain⟨cl,c1,c2,c3⟩:=M7 (scope:=scope) I.ok.has ok.free;rw[eval_ListComp];refine C5 (use:=none) rfl hs c1 ok.kind ok.names (FO (PA hc ok hi hg ht he c2 c3 I h hx) λv s1 h1=>FO h1 λit s2 h2=>FO h2 λacc s3 h3=>FO h3 λcenv s4 h4=>BP h4 λr s5 h5=>?_);obtain⟨rfl,⟨m,hm⟩,p,b,us,o,H5,ea,I5,l,e,⟨n,rfl⟩,z,fp,fc,ne,q⟩:=h5;refine⟨m,hm,λh' sb=>⟨b,p,us,n,_,ea,I5.ended (t':=s5.toks) (fp:=[cenv.locals]) (λb hb=>by cases Af.mp hb;exact fc) (λb u hb e=>(sb.2 b (by simpa using hb)).trans e),l,(sb.2 p ne).trans e,z,fp.of ⟨fp.1.1,(if_neg (by simpa using ne)).trans fp.1.2⟩,q⟩⟩
theorem QX{c:DK->List D->Hd->Prop}(cv:Cv c){i:Nat}{x:Str}{px:Pos}{spos:Pos}(hN:X.N.Nodup)(hi':X.N[i]?=some x)(hx:KE X.env.scope x)(hc:X.calm=true)(ok:CapOk X N' js scope)(hi:DI X xr tg iter T)
 (hg:∀cl C s₀ H₀ ex,DG (GK X N' scope cl C s₀ H₀ ex) tg g) (ht:∀cl C s₀ H₀ ex,DIfs (GK X N' scope cl C s₀ H₀ ex) GV ifs U) (he:∀cl C s₀ H₀ ex,DE (GK X N' scope cl C s₀ H₀ ex) GV elt Te)
 (hsw:swapsWith (.ListComp elt [⟨tg,iter,ifs,0⟩] scope pos) (some (.Name x px)) spos.line X.env=pure true) (hs:∀x,Cc iter X.env x=pure x) (hf:X.fn x=true\/X.env.scope.names.lookup x=some .local):
 DS X xr (.Assign [.Name x px] (.ListComp elt [⟨tg,iter,ifs,0⟩] scope pos) spos) (Go (λσ hd k e=>Hq T js g U Te σ hd (c k) e) (FM i)):= .mk λ{pins vl s σ H E}I h hq=>by
 obtain⟨cl,c1,c2,c3⟩:=M7 (scope:=scope) I.ok.has ok.free;rw[exec_Assign_Name_used _ _ _ _ hsw];refine Aa (Cp (Aa ?_));show wpAny _ X.A (do let _ <-comprehension (.ListComp elt [⟨tg,iter,ifs,0⟩] scope pos) scope X.env _ (newList []) false (eval iter X.env) (some (assign (.Name x px) X.env))) _ _ s
 refine Aa (AO (C5 (use:=some (assign (.Name x px) X.env)) (Q:=λ_ s'=>SP X pins vl E .next s') rfl hs c1 ok.kind ok.names
  (FO (PA hc ok hi hg ht he c2 c3 I h (hq _)) λv s1 h1=>FO h1 λit s2 h2=>FO h2 λacc s3 h3=>FO h3 λcenv s4 h4=>BP h4 λr s5 h5=>?_)) (λ_ s' hq=>Ab (Ab hq)) λ_ _ e=>e)
 obtain⟨rfl,⟨m,hm⟩,p,b,us,o,H5,ea,I5,l,e,⟨n,rfl⟩,z,fp,fc,ne,q⟩:=h5;obtain⟨d,H6,I6,so,q⟩:=cv I5 l e z fp q;have fc':=fc.of (so _ (Be ne) fc.1);subst ea;show wpAny _ X.A (assign (.Name x px) X.env _) _ _ _;refine E0 (MK I6 hN hi' hx (λs6 I7 ⟨a,sb,ha⟩=>?_) hf);have na:cenv.locals≠a:=by
  rcases ha with z | z
  . rw[z];exact fc.2.1
  . exact λy=>fc.2.2.2.2.1 x a z y.symm
 exact⟨m,hm.sameBut sb na,λh' sb'=>⟨_,_,I7.ended (t':=s6.toks) (fp:=[cenv.locals]) (λb hb=>by cases Af.mp hb;exact fc') (λb u hb e=>(sb'.2 b (by simpa using hb)).trans e),q⟩⟩
theorem XX{i:Nat}{x:Str}{px:Pos}{spos:Pos}(hN:X.N.Nodup)(hi':X.N[i]?=some x)(hx:KE X.env.scope x)(hc:X.calm=true)(ok:CapOk X N' js scope)(hi:DI X xr tg iter T)
 (hg:∀cl C s₀ H₀ ex,DG (GK X N' scope cl C s₀ H₀ ex) tg g) (ht:∀cl C s₀ H₀ ex,DIfs (GK X N' scope cl C s₀ H₀ ex) GV ifs U) (he:∀cl C s₀ H₀ ex,DE (GK X N' scope cl C s₀ H₀ ex) GV elt Te)
 (hsw:swapsWith (.ListComp elt [⟨tg,iter,ifs,0⟩] scope pos) (some (.Name x px)) spos.line X.env=pure true:=by rfl)
 (hs:∀x,Cc iter X.env x=pure x:=by intro _;rfl) (hf:X.fn x=true\/X.env.scope.names.lookup x=some .local:=by first | exact .inl rfl | exact .inr rfl | assumption):
 DS X xr (.Assign [.Name x px] (.ListComp elt [⟨tg,iter,ifs,0⟩] scope pos) spos) (Go (FY (Hq T js g U Te)) (FM i)):=QX Px hN hi' hx hc ok hi hg ht he hsw hs hf
theorem XY{i:Nat}{x:Str}{px:Pos}{spos:Pos}(hN:X.N.Nodup)(hi':X.N[i]?=some x)(hx:KE X.env.scope x)(hc:X.calm=true)(ok:CapOk X N' js scope)(hi:DI X xr tg iter T)
 (hg:∀cl C s₀ H₀ ex,DG (GK X N' scope cl C s₀ H₀ ex) tg g) (ht:∀cl C s₀ H₀ ex,DIfs (GK X N' scope cl C s₀ H₀ ex) GV ifs U) (he:∀cl C s₀ H₀ ex,DE (GK X N' scope cl C s₀ H₀ ex) GV elt Te)
 (hsw:swapsWith (.ListComp elt [⟨tg,iter,ifs,0⟩] scope pos) (some (.Name x px)) spos.line X.env=pure true:=by rfl)
 (hs:∀x,Cc iter X.env x=pure x:=by intro _;rfl) (hf:X.fn x=true\/X.env.scope.names.lookup x=some .local:=by first | exact .inl rfl | exact .inr rfl | assumption):
 DS X xr (.Assign [.Name x px] (.ListComp elt [⟨tg,iter,ifs,0⟩] scope pos) spos) (Go (Iq (Hq T js g U Te)) (FM i)):=QX Pw hN hi' hx hc ok hi hg ht he hsw hs hf
end
noncomputable def Ro(outer:Scope)(N N':List Str)(js:Jn)(scope:Scope):Bool:=
 decide (js.length=N'.length) && (scope.kind== .function) && scope.names.all (λp=>(p.2 != .cell || scope.names.lookup p.1==some .cell) && (p.2 != .local || scope.names.lookup p.1==some .local) && (p.2 != .free || (outer.names.lookup p.1==some .cell || outer.names.lookup p.1==some .free)))
  && (A6 js.length).all λi=>match js[i]? with
   | some (some j)=>(match N'[i]? with | some x=>N[j]?==some x && scope.names.lookup x==some .free | none=>false)
   | _=>true
theorem IL{X:Cx}{N':List Str}{js:Jn}{scope:Scope}(h:Ro X.env.scope X.N N' js scope=true):CapOk X N' js scope:=by
 unfold Ro at h;rw[Ae,Ae,Ae] at h;obtain⟨⟨⟨h1,h2⟩,h3⟩,h4⟩:=h;rw[A3] at h3 h4;refine⟨of_decide_eq_true h1,eq_of_beq h2,λp hp e=>?_,λp hp e=>?_,λp hp e=>?_,λi j e=>?_⟩
 . have:=h3 p hp;rw[e] at this;simp at this;exact this
 . have:=h3 p hp;rw[e] at this;simp at this;exact this
 . have:=h3 p hp;rw[e] at this;simp at this;exact this
 . have hi:i<js.length:=(Ar.mp e).1;have:=h4 i (BA.mpr hi);rw[e] at this;simp only at this;cases q:N'[i]? with
   | none=>rw[q] at this;cases this
   | some x=> rw[q] at this;simp only[Ae,beq_iff_eq] at this;exact⟨x,rfl,this.1,this.2⟩
noncomputable def G7:List D->List D->D->Option D
 | k::ks,v::vs,x=>bif Gf k x then some v else G7 ks vs x
 | _,_,_=>none
noncomputable def G2:List D->D->List D
 | [],x=>[x]
 | k::ks,x=>k::(bif Gf k x then ks else G2 ks x)
noncomputable def Hb:List D->List D->D->D->List D
 | k::ks,v::vs,x,y=>bif Gf k x then y::vs else v::Hb ks vs x y
 | _,_,_,y=>[y]
noncomputable def Ig:List D->D->List D
 | [],_=>[]
 | k::ks,x=>bif Gf k x then ks else k::Ig ks x
noncomputable def Iv:List D->List D->D->List D
 | k::ks,v::vs,x=>bif Gf k x then vs else v::Iv ks vs x
 | _,_,_=>[]
noncomputable def Gp(ks:List D)(x:D):Option Nat:=ks.findIdx? λk=>Gf k x
theorem LA(k:D)(ks:List D)(x:D):Gp (k::ks) x=bif Gf k x then some 0 else(Gp ks x).map (· +1):=by unfold Gp;rw[Em];cases Gf k x<;>rfl
theorem Nm(x:D):∀ks:List D,ks.any (λk=>Gf k x)=(Gp ks x).isSome
 | []=>rfl
 | k::ks=>by rw[CC,LA,Nm x ks];cases Gf k x<;>simp
theorem ME(x:D):∀{ks vs:List D},ks.length=vs.length->G7 ks vs x=(Gp ks x).bind λi=>vs[i]?
 | [],[],_=>rfl
 | k::ks,v::vs,l=>by rw[G7,LA,ME x (Cm l)];cases Gf k x<;>simp[Option.bind_map,Function.comp_def]
 | [],_::_,l=>by cases l
 | _::_,[],l=>by cases l
theorem Jt(x y:D):∀{ks vs:List D},ks.length=vs.length->match Gp ks x with | none=>G2 ks x=ks++[x]/\Hb ks vs x y=vs++[y] | some i=>G2 ks x=ks/\Hb ks vs x y=vs.set i y
 | [],[],_=>⟨rfl,rfl⟩
 | k::ks,v::vs,l=>by
  have:=Jt x y (Cm l);rw[LA,G2,Hb];cases Gf k x with
  | true=>exact⟨rfl,rfl⟩
  | false=>cases e:Gp ks x<;>rw[e] at this<;>simp[this.1,this.2]
 | [],_::_,l=>by cases l
 | _::_,[],l=>by cases l
theorem Ly(x:D):∀{ks vs:List D}{i:Nat},ks.length=vs.length->Gp ks x=some i->Ig ks x=ks.eraseIdx i/\Iv ks vs x=vs.eraseIdx i/\i<ks.length
 | k::ks,v::vs,i,l,e=>by
  rw[LA] at e;rw[Ig,Iv];cases z:Gf k x with
  | true=>rw[z] at e;cases e;exact⟨rfl,rfl,Nat.zero_lt_succ _⟩
  | false=> rw[z,cond_false] at e;obtain⟨j,e1,rfl⟩:=CH.mp e;have:=Ly x (Cm l) e1;simp[this.1,this.2.1,this.2.2]
 | [],_,_,_,e=>by cases e
 | _::_,[],_,l,_=>by cases l
theorem NR{x z:D}:∀{ks:List D},z∈G2 ks x->z∈ks\/z=x
 | [],h=> .inr (Af.mp h)
 | k::ks,h=>by
  rw[G2] at h;cases e:Gf k x<;>rw[e] at h
  . rcases Ag.mp h with h | h
    . exact .inl (h ▸ AA)
    . exact(NR h).imp (Aw _) id
  . exact .inl h
theorem LD{x:D}:∀{ks:List D},ks.Nodup->(G2 ks x).Nodup
 | [],_=>by simp[G2]
 | k::ks,h=>by
  rw[AL] at h;rw[G2];cases e:Gf k x with
  | true=>exact AL.mpr h
  | false=>
   refine AL.mpr ⟨λm=>?_,LD h.2⟩;rcases NR m with m | m
   . exact h.1 m
   . rw[m,L9] at e;cases e
theorem MA(x:D):∀ks:List D,(G2 ks x).length<=ks.length+1
 | []=>Al _
 | k::ks=>by have:=MA x ks;rw[G2];cases Gf k x<;>simp<;>lia
theorem NU{t:Bool}{ks:List D}{x:D}(h:ks.all (G3 t)=true)(hx:G3 t x=true):(G2 ks x).all (G3 t)=true:=by rw[A3] at*;exact λz m=>(NR m).elim (h z) λe=>e ▸ hx
noncomputable def Jy:D->Value->Bool
 | .int i,.int j _=>j==i
 | .str x,.str y _=>y==x
 | _,_=>false
theorem Km{k:D}{v:Value}(h:Jy k v=true):(∃i t,k= .int i/\v= .int i t)\/∃x t,k= .str x/\v= .str x t:=by cases k<;>cases v<;>simp[Jy] at h<;>subst h<;>simp
theorem WT(i j:Int):decide (D.int i=D.int j)=(i==j):=by rw[ID,Gf]
theorem WU(i j:Str):decide (D.str i=D.str j)=decide (i=j):=by rw[A8];simp
noncomputable def TR(prog:AM)(w:World):PySem.KeyKind prog w D where
 is:=Jy
 hash:=Ih w
 inj:=λv a b ha hb=>by rcases Km ha with⟨i,t,rfl,rfl⟩ | ⟨x,t,rfl,rfl⟩<;>rcases Km hb with⟨j,u,rfl,e⟩ | ⟨y,u,rfl,e⟩<;>cases e<;>rfl
 byValue:=λk v h=>by rcases Km h with⟨i,t,rfl,rfl⟩ | ⟨x,t,rfl,rfl⟩<;>rfl
 pyHash:=λhv h=>by
  rcases Km hv with⟨i,t,rfl,rfl⟩ | ⟨x,t,rfl,rfl⟩<;>rw[Ih] at h
  . exact wpAny_pyHash_int h
  . exact wpAny_pyHash_str h
 eqBool:=λhu hv h=>by
  rcases Km hu with⟨i,t,rfl,rfl⟩ | ⟨x,t,rfl,rfl⟩<;>rcases Km hv with⟨j,u,rfl,rfl⟩ | ⟨y,u,rfl,rfl⟩
  . rw[WT] at h;exact wpAny_eqBool_int h
  . exact SeqAt.EqAt.int_str i t y u _ _ _ _ (by rwa [decide_eq_false (by simp)] at h)
  . exact SeqAt.EqAt.str_int x t j u _ _ _ _ (by rwa [decide_eq_false (by simp)] at h)
  . rw[WU] at h;exact wpAny_eqBool_str h
 «strs»:=λk x t v h=>by rcases Km h with⟨i,u,rfl,e⟩ | ⟨y,u,rfl,e⟩<;>cases e;cases v<;>simp[Jy,Value.isStr]
mutual
theorem Qo:∀{d e:D},isK d=true->isK e=true->FQ d e=Gf d e
 | .tup a,e,h,q=>by cases e<;>simp[FQ,Gf];rw[isK] at h q;exact Rh h q
 | .non,e,_,q=>by cases e<;>simp[FQ,Gf]
 | .int _,e,_,q=>by cases e<;>simp[FQ,Gf]<;>cases q
 | .str _,e,_,q=>by cases e<;>simp[FQ,Gf]
theorem Rh:∀{d e:List D},isKs d=true->isKs e=true->FT d e=H4 d e
 | [],e,_,_=>by cases e<;>rfl
 | a::as,[],_,_=>rfl
 | a::as,b::bs,h,q=>by rw[isKs,Ae] at h q;rw[FT,H4,Qo h.1 q.1,Rh h.2 q.2]
end
mutual
inductive KeyV(h:Heap):D->Value->Prop
 | non:KeyV h .non .none
 | int (i:Int) (t:Tok):KeyV h (.int i) (.int i t)
 | str (x:Str) (t:Tok):KeyV h (.str x) (.str x t)
 | tup {a:Addr} {us:List Value} {ds:List D}:IsTup h a us.toArray->KeyVs h ds us->KeyV h (.tup ds) (.ref a)
inductive KeyVs(h:Heap):List D->List Value->Prop
 | nil:KeyVs h [] []
 | cons {d:D} {u:Value} {ds:List D} {us:List Value}:KeyV h d u->KeyVs h ds us->KeyVs h (d::ds) (u::us)
end
theorem KeyV.keeps{h h':Heap}(k:∀a u,IsTup h a u->IsTup h' a u){d:D}{u:Value}(r:KeyV h d u):KeyV h' d u:=
 @KeyV.rec h (λd u _=>KeyV h' d u) (λd u _=>KeyVs h' d u) .non .int .str (λp _ r=> .tup (k _ _ p) r) .nil (λ_ _ a b=> .cons a b) d u r
theorem KeyV.nw{h:Heap}{n:Nat}{d:D}{u:Value}(r:KeyV h d u)(l:Gz d<=n):Nw h n d u:=
 @KeyV.rec h (λd u _=>∀{n},Gz d<=n->Nw h n d u) (λd u _=>∀{n},HZ d<=n->Nws h n d u) (λ{_}_=> .non) (λi t{_}_=> .int i t) (λi t{_}_=> .str i t)
  (λ{_ _ _}p _ ih{n}l=>by cases n with | zero=>cases l | succ n=>exact .tup p (ih (D4 l))) (λ{_}_=> .nil) (λ{_ _ _ _}_ _ a b{_}l=> .cons (a (At (Nat.le_max_left _ _) l)) (b (At (Nat.le_max_right _ _) l))) d u r _ l
theorem KeyV.isK{h:Heap}{d:D}{u:Value}(r:KeyV h d u):Lake.isK d=true:=
 @KeyV.rec h (λd _ _=>Lake.isK d=true) (λd _ _=>Lake.isKs d=true) rfl (λ_ _=>rfl) (λ_ _=>rfl) (λ_ _ r=>r) rfl (λ_ _ a b=>(Ae _ _).mpr ⟨a,b⟩) d u r
theorem Mv{G:Ev}{h:Heap}{H:Hx}(d:D){u:Value}(e:isK d=true)(r:Rv G h H d u):KeyV h d u:=
 @Rv.rec G h H (λd u _=>isK d=true->KeyV h d u) (λd u _=>isKs d=true->KeyVs h d u) (λ_=> .non) (λ_ e=>nomatch e) (λi t _=> .int i t) (λi t _=> .str i t) (λ_ e=>nomatch e) (λ_ e=>nomatch e) (λ_ _ e=>nomatch e) (λ_ _ _ _ e=>nomatch e)
  (λq _ ih e=> .tup q.at_ (ih e)) (λ_ _ _ e=>nomatch e) (λ_=> .nil) (λ_ _ a b e=> .cons (a ((Ae _ _).mp e).1) (b ((Ae _ _).mp e).2)) d u r e
theorem XA{h h':Heap}{d:Addr}{o:Obj}{es:Array En}{ep:Nat}(ho:h.get? d=some o)(hd:o.data= .dict es ep)(hs:AU d h h')(a:Addr)(u:Array Value)(p:IsTup h a u):IsTup h' a u:=by obtain⟨o',h1,h2,n,h3⟩:=p;exact⟨o',(hs.2 a (by rintro rfl;rw[ho] at h1;cases h1;rw[hd] at h3;cases h3)).trans h1,h2,n,h3⟩
mutual
def J8:D->Nat
 | .tup ds=>M0 ds+1
 | _=>1
def M0:List D->Nat
 | []=>0
 | d::ds=>J8 d+M0 ds
end
section
variable{prog:AM}{w:World}{A:Ax}{E:Value->Shared->Prop}{s:Shared}
theorem Ya{Q:Int->Shared->Prop}(h:Q 0xFCA86420 {s with toks:=s.toks+1}):wpAny (model prog w) A (pyHash .none) Q E s:=by
 have ty:s.TypeIs .none "NoneType":=typeIs_none s;unfold pyHash;refine Aa ?_;rw[cRoomFor,if_neg (by rw[show [Value.none].any Value.onHeap=false from rfl];exact Bb)];refine Ab ?_;refine Aa (Bw ty Cq.lookup ?_);rw[if_neg (by rw[beq_builtin_none];exact Bb)];refine Aa (Bw ty Cq.lookup ?_);refine Aa (CV ty Cq (A7 Cq ty PySem.F.entry_NoneType_hash ?go (PySem.F.args_NoneType_hash_1 _)))
 case go=>
  show wpAny _ _ (do ret (<-mkInt 0xFCA86420)) _ _ s
  refine EU ?_;dsimp only;unfold pyHashByItsType.reduced;rw[if_pos (by decide)];exact Ab h
mutual
theorem Oh{hp:Heap}:∀{d:D}{u:Value}{A:Ax}{s:Shared}{Q:Int->Shared->Prop},s.heap=hp->A.units+Gz d<cLine->KeyV hp d u->Q (Ih w d) {s with toks:=s.toks+J8 d}->wpAny (model prog w) A (pyHash u) Q E s
 | _,_,A,s,Q,_,_,.non,h=>by rw[Ih,J8] at h<;>first | exact Ya h | (intros;contradiction)
 | _,_,A,s,Q,_,_,.int i t,h=>by rw[Ih,J8] at h<;>first | exact wpAny_pyHash_int h | (intros;contradiction)
 | _,_,A,s,Q,_,_,.str i t,h=>by rw[Ih,J8] at h<;>first | exact wpAny_pyHash_str h | (intros;contradiction)
 | .tup ds,.ref a,A,s,Q,he,hu,.tup p r,h=>by
  subst he;rw[Ih,J8] at h;rw[Gz] at hu;have ty:s.TypeIs (.ref a) "tuple":=let⟨o,h1,h2,_⟩:=p;⟨o,h1,h2⟩;obtain⟨o,ho,_,n,hd⟩:=id p;unfold pyHash
  first | unfold pyHashByItsType | skip
  first | refine Aa (wpAny_cRoomFor_or (.inr (by lia)) ?_) | skip
  refine Aa (Bw ty Cg.lookup ?_);rw[if_neg (by rw[beq_builtin_none];exact Bb)];refine Aa (Bw ty Cg.lookup ?_);refine Aa (CV ty Cg (A7 Cg ty PySem.F.entry_tuple_hash ?go (PySem.F.args_tuple_hash_1 _)))
  case go=>
   show wpAny _ _ (CZ (.ref a)>>=_) _ _ s;refine Aa (wpAny_tupleItemsOf ho hd (Aa ?_));rw[<-Dn,Dc];refine RE (acc:=#[]) rfl (by show A.units+1+HZ ds<cLine;lia) r λb eb=>?_;show wpAny _ _ (retInt (E4 b.toList)) _ _ _;rw[eb,show(#[]:Array Int).toList++Kg w ds=Kg w ds from rfl];refine EU ?_;unfold reduceHash at h;dsimp only;unfold pyHashByItsType.reduced
   split at h
   . rename_i hr;rw[if_pos hr];exact Ab (by simpa [Nat.add_assoc] using h)
   . rename_i hr;rw[if_neg hr];exact Aa (BS (Ab (by simpa [Nat.add_assoc] using h)))
theorem RE{hp:Heap}:∀{ds:List D}{us:List Value}{A:Ax}{s:Shared}{acc:Array Int}{Q:Array Int->Shared->Prop},s.heap=hp->A.units+HZ ds<cLine->KeyVs hp ds us->(∀b:Array Int,b.toList=acc.toList++Kg w ds->Q b {s with toks:=s.toks+M0 ds})->
 wpAny (model prog w) A (forIn us acc λx b=>do let h <-pyHash x;pure (ForInStep.yield (b.push h))) Q E s
 | _,_,A,s,acc,Q,_,_,.nil,h=>by rw[Eg];exact Ab (h acc (by rw[Kg,A9]))
 | d::ds,_::_,A,s,acc,Q,he,hu,.cons a b,h=>by
  rw[HZ] at hu;rw[DJ];refine Aa (Aa (Oh he (by lia) a ?_));refine Ab (RE (s:={s with toks:=s.toks+J8 d}) he (by lia) b λc e=>?_)
  have:=h c (by rw[e,Kg];simp);rw[M0] at this;simpa [Nat.add_assoc] using this
end
theorem Z_(n:Nat):∀(d:D)(u:Value)(A:Ax)(Q:Bool->Shared->Prop),Gz d<=n->KeyV s.heap d u->Q true s->wpAny (model prog w) A (eqIsQuiet n u) Q E s:=by
 induction n with
 | zero=>
  intro d u A Q hn k h;cases k with
  | tup p r=>rw[Gz] at hn;lia
  | non=>rw[eqIsQuiet_byValue _ rfl];exact Ab h
  | int i t=>rw[eqIsQuiet_byValue _ rfl];exact Ab h
  | str i t=>rw[eqIsQuiet_byValue _ rfl];exact Ab h
 | succ n ih=>
  intro d u A Q hn k h;cases k with
  | non=>rw[eqIsQuiet_byValue _ rfl];exact Ab h
  | int i t=>rw[eqIsQuiet_byValue _ rfl];exact Ab h
  | str i t=>rw[eqIsQuiet_byValue _ rfl];exact Ab h
  | @tup a us ds p r=>
   rw[Gz] at hn;have ty:s.TypeIs (.ref a) "tuple":=let⟨o,h1,h2,_⟩:=p;⟨o,h1,h2⟩;obtain⟨o,h1,_,m,h2⟩:=p;unfold eqIsQuiet;refine Aa (Bw ty PySem.F.slot_tuple_eq.lookup ?_);show wpAny _ _ (isInstance (.ref a) (.type "tuple")>>=_) _ _ s;refine Aa (DB ty isSubtype_tuple_tuple ?_);simp only[Cr,A2,if_false];refine Aa (BB h1 h2 (Aa ?_));show wpAny _ _ (forIn us.toArray _ _) _ _ s;rw[<-Dn];refine CW _ (λrest r s'=>r.1=none/\s'=s/\∃es,KeyVs s.heap es rest/\HZ es<=n) _ ?step ?done _ _ ⟨rfl,rfl,ds,by simpa using r,by lia⟩
   case step=>
    rintro v rest r s' ⟨hr,rfl,es,hl,le⟩;cases hl with
    | cons c1 hl'=> rw[HZ,Nat.max_le] at le;refine Aa (ih _ _ _ _ le.1 c1 ?_);simp only[Cr,A2,if_false];exact Ab ⟨rfl,rfl,_,hl',le.2⟩
   case done=> rintro⟨r1,r2⟩ s' ⟨hr,rfl,_⟩;simp only at hr;subst hr;exact Ab h
noncomputable def Ix(h:Heap)(d:D)(a:Addr):Prop:=KeyV h d (.ref a)/\Gz d<=8
noncomputable def KN(prog:AM)(w:World):HeapKind prog w D where
 is:=Ix
 hash:=Ih w
 draws:=J8
 room:=λA=>A.units+20<cLine
 inj:=λhx hy=>(hx.1.nw hx.2).inj (hy.1.nw hy.2)
 keeps:=λx ho hd hs=>⟨x.1.keeps (XA ho hd hs),x.2⟩
 pyHash:=λhu hk h=>Oh rfl (by have:=hk.2;lia) hk.1 h
 eqBool:=λ{A}{E}{s}{x}{y}{a}{b}{Q}hu hx hy h=>MX (m:=8) (by lia) (hx.1.nw hx.2) (hy.1.nw hy.2) prog w E Q (by rw[Qo hx.1.isK hy.1.isK,<-ID];exact h)
 quiet:=λhk h=>Z_ 8 _ _ _ _ hk.2 hk.1 h
end
section
variable{G:Ev}{h:Heap}{H:Hx}
theorem Na{x:D}{u:Value}(r:Rv G h H x u)(hx:G3 false x=true):∀{z:D},G3 false z=true->∀{v:Value},Rv G h H z v->Jy x v=Gf z x:=by
 intro z hz v rz;cases r<;>first | (cases hx;done) | skip
 all_goals (cases rz<;>first | (cases hz;done) | skip)
 all_goals simp[Jy,Gf]
theorem P3{x:D}{u:Value}(r:Rv G h H x u)(hx:G3 false x=true):∀{ks:List D}{us:List Value},Rvs G h H ks us->ks.all (G3 false)=true->us.findIdx? (Jy x)=Gp ks x
 | _,_,.nil,_=>rfl
 | _,_,.cons a b,e=>by rw[Ce,Ae] at e;rw[Em,LA,P3 r hx b e.2,Na r hx e.1 a];cases Gf _ x<;>rfl
theorem X_{α β:Type}(f:α->β)(p:β->Bool)(l:List α):(l.map f).findIdx? p=l.findIdx? λa=>p (f a):=by induction l<;>simp_all [Em]
theorem PU:∀{ks:List D}{es:List En}{us:List Value}(w:World)(prog:AM),Rvs G h H ks us->es.map (·.key)=us->es.map (·.hash)=ks.map (Ih w)->ks.all (G3 true)=true->
 ∃xs:List (D×Addr×Value),es=xs.map (entryOfKey (KN prog w))/\xs.map (·.1)=ks/\∀x∈xs,Ix h x.1 x.2.1
 | [],[],_,_,_,_,_,_,_=>⟨[],rfl,rfl,nofun⟩
 | [],_::_,_,_,_,.nil,e,_,_=>by cases e
 | k::ks,[],_,_,_,.cons _ _,e,_,_=>by cases e
 | k::ks,e::es,_,w,prog,.cons (u:=u) a b,e1,e2,e3=>by
  rw[Aj,ES] at e1;rw[Aj,Aj,ES] at e2;rw[Ce,Ae] at e3;obtain⟨xs,h1,h2,h3⟩:=PU w prog b e1.2 e2.2 e3.2;obtain⟨hs,ky,vl⟩:=e;obtain⟨rfl,_⟩:=e1;obtain⟨rfl,_⟩:=e2;cases k<;>first | (cases e3.1;done) | skip
  rename_i ds;simp only[G3,D8,Ae,Nat.ble_eq] at e3;have ky:=Mv (.tup ds) (by rw[isK];exact e3.1.1) a;have dp:Gz (.tup ds)<=8:=by rw[Gz];lia
  cases a with | @tup ad _ _ _ _=>exact⟨(.tup ds,ad,vl)::xs,by rw[h1];rfl,by rw[Aj,h2],λx hx=>(Ag.mp hx).elim (λz=>z ▸ ⟨ky,dp⟩) (h3 x)⟩
theorem Ze{ks:List D}{x:D}{j:Nat}(nd:ks.Nodup)(e:ks[j]?=some x):Gp ks x=some j:=by obtain⟨l,e⟩:=Ar.mp e;unfold Gp;rw[List.findIdx?_eq_some_iff_getElem];refine⟨l,by rw[e];exact L9 x,λi hi z=>?_⟩;have:=(Kk _ _).mp z;have:=(List.getElem_inj (h₀:=by lia) (h₁:=l) nd).mp (this.trans e.symm);lia
theorem Zd{ks:List D}{x:D}(e:x ∉ ks):Gp ks x=none:=by unfold Gp;rw[List.findIdx?_eq_none_iff];exact λk hk=>by cases z:Gf k x with | false=>rfl | true=>exact absurd ((Kk _ _).mp z ▸ hk) e
end
section
variable{prog:AM}{G:Ev}{A:Ax}{E:Value->Shared->Prop}{s:Shared}{H:Hx}{a:Addr}{t:Bool}{ep:Nat}{ks vs:List D}{us ws:List Value}{o:Obj}{x:D}{u v:Value}
theorem MJ{Q:Int->Shared->Prop}(r:Rv G s.heap H x u)(hx:G3 t x=true)(hu:A.units+20<cLine)(q:∀tk,Q (Ih G.w x) {s with toks:=tk}):wpAny (model prog G.w) A (pyHash u) Q E s:=by
 have e:isK x=true/\Gz x<=8:=by
  cases x<;>cases t<;>first | (cases hx;done) | (constructor<;>rfl) | (constructor<;>exact AK _) | skip
  all_goals simp_all [G3,isK,Gz]
 exact Oh rfl (by lia) (Mv x e.1 r) (q _)
theorem MI{Q:Option Nat->Shared->Prop}(ho:s.heap.get? a=some o)(d:DObj G.w ks ep us ws o)(rk:Rvs G s.heap H ks us)(nd:ks.Nodup)(hk:ks.all (G3 t)=true)(r:Rv G s.heap H x u)(hx:G3 t x=true)(hu:A.units+20<cLine)
 (q:Q (Gp ks x) s):wpAny (model prog G.w) A (dictFind a u (Ih G.w x)) Q E s:=by
 obtain⟨c,es,hd,e1,e2,e3⟩:=d;cases t with
 | false=>
  have kx:Jy x u=true:=by rw[Na r hx hx r];exact L9 x
  refine wpAny_dictFind_of (knd:=TR prog G.w) kx ho hd (λe he=>?_) ?_
  . have he:=Cw.mpr he;obtain⟨i,hi⟩:=CN.mp he;have hu:us[i]?=some e.key:=by rw[<-e1,AB,hi];rfl
    obtain⟨k,hk',rk'⟩:=rk.get' hu;have hh:(ks.map (Ih G.w))[i]?=some e.hash:=by rw[<-e3,AB,hi];rfl
    rw[AB,hk'] at hh;have ik:=A3.mp hk k (AD hk');exact⟨k,by show Jy k e.key=true;rw[Na rk' ik ik rk'];exact L9 k,(Bg hh).symm⟩
  . show Q (es.findIdx? λe=>Jy x e.key) s;have q2:=q;rw[<-P3 r hx rk hk,<-e1,X_] at q2;obtain⟨l⟩:=es;simpa using q2
 | true=>
  cases x<;>first | (cases hx;done) | skip
  rename_i ds;simp only[G3,D8,Ae,Nat.ble_eq] at hx;have ky:=Mv (.tup ds) (by rw[isK];exact hx.1) r;have dp:Gz (.tup ds)<=8:=by rw[Gz];lia
  obtain⟨xs,h1,h2,h3⟩:=PU G.w prog rk e1 e3 hk;cases r with | @tup b _ _ _ _=>
   refine wpAny_dictFind_heap (knd:=KN prog G.w) (k:= .tup ds) (xs:=xs) hu ⟨ky,dp⟩ ho hd h1 h3 (by rw[h2];exact nd) (λno=>?_) λj p hj=>?_
   . rw[Zd λhm=>?_] at q
     . exact q
     . rw[<-h2] at hm;obtain⟨⟨k,p⟩,hm,rfl⟩:=AG.mp hm;obtain⟨j,hj⟩:=CN.mp hm;exact no j p hj
   . rw[Ze (j:=j) nd (by rw[<-h2,AB,hj];rfl)] at q;exact q
theorem LC{α β:Type}(f:α->β):∀(l:List α)(k:Nat),(l.map f).eraseIdx k=(l.eraseIdx k).map f
 | [],_=>rfl
 | a::l,0=>rfl
 | a::l,k+1=>by rw[Aj,EJ,EJ,Aj,LC f l k]
theorem DObj.size{w:World}(d:DObj w ks ep us ws o)(rk:ks.length=us.length):∃es,o.data= .dict es ep/\es.size=ks.length:=by obtain⟨_,es,hd,e1,_⟩:=d;exact⟨es,hd,by rw[rk,<-e1];simp⟩
theorem DObj.push{w:World}(d:DObj w ks ep us ws o):DObj w (ks++[x]) (ep+1) (us++[u]) (ws++[v]) (o.mapDictKeys (·.push ⟨Ih w x,u,v⟩)):=by obtain⟨c,es,hd,e1,e2,e3⟩:=d;exact⟨c.mapDictKeys _,_,Cy hd _,by simp[e1],by simp[e2],by simp[e3]⟩
theorem DObj.modify{w:World}(i:Nat)(d:DObj w ks ep us ws o):DObj w ks ep us (ws.set i v) (o.mapDict (·.modify i λe=>{e with val:=v})):=by
 obtain⟨c,es,hd,e1,e2,e3⟩:=d;refine⟨c.mapDict _,_,Obj.data_mapDict hd _,?_,?_,?_⟩
 . rw[<-e1];apply Dy;intro j;simp[DM];cases es[j]?<;>simp<;>split<;>rfl
 . rw[<-e2];apply Dy;intro j;simp[DM,List.getElem?_set];grind
 . rw[<-e3];apply Dy;intro j;simp[DM];cases es[j]?<;>simp<;>split<;>rfl
theorem DObj.erase{w:World}(i:Nat)(d:DObj w ks ep us ws o):DObj w (ks.eraseIdx i) (ep+1) (us.eraseIdx i) (ws.eraseIdx i) (o.mapDictKeys (·.eraseIdxIfInBounds i)):=by
 obtain⟨c,⟨es⟩,hd,e1,e2,e3⟩:=d;have el:((⟨es⟩:Array En).eraseIdxIfInBounds i).toList=es.eraseIdx i:=by simp
 refine⟨c.mapDictKeys _,_,Cy hd _,?_,?_,?_⟩<;>rw[el]
 . rw[<-e1,LC]
 . rw[<-e2,LC]
 . rw[<-LC,e3,LC]
theorem DObj.at'{w:World}(d:DObj w ks ep us ws o):∃es:Array En,o.data= .dict es ep/\∀i:Nat,es[i]?.map (λe=>e.val)=ws[i]?:=by obtain⟨_,es,hd,_,e2,_⟩:=d;exact⟨es,hd,λi=>by rw[<-e2];simp⟩
section
variable(ho:s.heap.get? a=some o)(d:DObj G.w ks ep us ws o)(rk:Rvs G s.heap H ks us)(nd:ks.Nodup)(hk:ks.all (G3 t)=true)(r:Rv G s.heap H x u)(hx:G3 t x=true)
include ho d rk nd hk r hx
theorem Of{Q:Option Value->Shared->Prop}(hu:A.units+20<cLine)(q:∀tk,Q ((Gp ks x).bind λi=>ws[i]?) {s with toks:=tk}):wpAny (model prog G.w) A (dictGet a u) Q E s:=by
 obtain⟨es,hd,hv⟩:=d.at';unfold dictGet
 try with_reducible refine Av ?_
 refine Aa (MJ r hx hu λtk=>Aa (MI (s:={s with toks:=tk}) ho d rk nd hk r hx hu ?_))
 have q:=q tk;cases e:Gp ks x with
 | none=>rw[e] at q;exact Ab q
 | some i=>rw[e,Ci,<-hv] at q;exact Aa (Cd (s:={s with toks:=tk}) ho hd (Ab q))
theorem QV{Q:Unit->Shared->Prop}(hu:A.units+20<cLine)(hz:ks.length<=An)(fin:∀tk h' o' ep' us' ws',AU a s.heap h'->h'.get? a=some o'->DObj G.w (G2 ks x) ep' us' ws' o'->(∀{h2 H2},Rvs G h2 H2 ks us->Rv G h2 H2 x u->Rvs G h2 H2 (G2 ks x) us')->
 (∀{h2 H2 vs y},Rvs G h2 H2 ks us->Rvs G h2 H2 vs ws->Rv G h2 H2 y v->ks.length=vs.length->Rvs G h2 H2 (Hb ks vs x y) ws')->Q () {s with heap:=h',toks:=tk}):wpAny (model prog G.w) A (dictSet a u v) Q E s:=by
 obtain⟨es,hd,sz⟩:=d.size rk.length;unfold dictSet
 try with_reducible refine Av ?_
 refine Aa (MJ r hx hu λtk=>?_);unfold dictSetHashed
 try with_reducible refine Av ?_
 refine Aa (MI (s:={s with toks:=tk}) ho d rk nd hk r hx hu ?_)
 cases e:Gp ks x with
 | none=>
  refine Aa (BS (DP (hz:=by lia) (s:={s with toks:=tk}) ho hd (fin tk _ _ (ep+1) (us++[u]) (ws++[v]) (.update ..) (Bn _ ho (Dd (Cy hd _))) ?_ ?_ ?_)))
  . have:=Jt x x (vs:=ks) rfl;rw[e] at this;rw[this.1];exact d.push
  . have:=Jt x x (vs:=ks) rfl;rw[e] at this;rw[this.1];exact λ{_ _}a b=>a.app (.cons b .nil)
  . intro h2 H2 vs y _ b c l;have:=Jt x y l;rw[e] at this;rw[this.2];exact b.app (.cons c .nil)
 | some i=>
  refine Aa (BS (Aa (wpAny_updateDict (s:={s with toks:=tk}) ho hd (wpAny_point (fin tk _ _ ep us (ws.set i v) (.update ..) (Bn _ ho (Dd (Obj.data_mapDict hd _))) ?_ ?_ ?_)))))
  . have:=Jt x x (vs:=ks) rfl;rw[e] at this;rw[this.1];exact d.modify i
  . have:=Jt x x (vs:=ks) rfl;rw[e] at this;rw[this.1];exact λ{_ _}a b=>a
  . intro h2 H2 vs y _ b c l;have:=Jt x y l;rw[e] at this;rw[this.2];exact b.set i c
theorem WY{Q:Value->Shared->Prop}(hu:A.units+20<cLine)(hz:ks.length<=An)(h1:∀tk i z,Gp ks x=some i->ws[i]?=some z->Q z {s with toks:=tk})(lw:us.length=ws.length)
 (fin:Gp ks x=none->∀tk h' o' ep' us' ws',AU a s.heap h'->h'.get? a=some o'->DObj G.w (G2 ks x) ep' us' ws' o'->(∀{h2 H2},Rvs G h2 H2 ks us->Rv G h2 H2 x u->Rvs G h2 H2 (G2 ks x) us')->
 (∀{h2 H2 vs y},Rvs G h2 H2 ks us->Rvs G h2 H2 vs ws->Rv G h2 H2 y v->ks.length=vs.length->Rvs G h2 H2 (Hb ks vs x y) ws')->Q v {s with heap:=h',toks:=tk}):wpAny (model prog G.w) A (dictSetDefault a u v) Q E s:=by
 obtain⟨es,hd,sz⟩:=d.size rk.length;unfold dictSetDefault
 try with_reducible refine Av ?_
 refine Aa (MJ r hx hu λtk=>Aa (MI (s:={s with toks:=tk}) ho d rk nd hk r hx hu ?_))
 cases e:Gp ks x with
 | none=>
  refine Aa (BS (Aa (DP (hz:=by lia) (s:={s with toks:=tk}) ho hd (Ab (fin e tk _ _ (ep+1) (us++[u]) (ws++[v]) (.update ..) (Bn _ ho (Dd (Cy hd _))) ?_ ?_ ?_)))))
  . have:=Jt x x (vs:=ks) rfl;rw[e] at this;rw[this.1];exact d.push
  . have:=Jt x x (vs:=ks) rfl;rw[e] at this;rw[this.1];exact λ{_ _}a b=>a.app (.cons b .nil)
  . intro h2 H2 vs y _ b c l;have:=Jt x y l;rw[e] at this;rw[this.2];exact b.app (.cons c .nil)
 | some i=>
  obtain⟨es',hd',hv⟩:=d.at';rw[hd] at hd';cases hd';have il:=(Ly x (vs:=ks) rfl e).2.2;have lt:i<ws.length:=by rw[<-lw,<-rk.length];exact il
  refine Aa (Cd (s:={s with toks:=tk}) ho hd ?_)
  have q:=h1 tk i ws[i] e (by simp);have:=hv i;cases z:es[i]? with
  | none=>rw[z] at this;simp at this;lia
  | some en=> rw[z] at this;rw[show ws[i]=en.val by simpa [lt,eq_comm] using this] at q;exact Aa (BS (Ab q))
theorem XO{Q:Option En->Shared->Prop}{i:Nat}(hu:A.units+20<cLine)(hz:ks.length<=An)(e:Gp ks x=some i)
 (fin:∀en tk h' o' ep',AU a s.heap h'->h'.get? a=some o'->DObj G.w (ks.eraseIdx i) ep' (us.eraseIdx i) (ws.eraseIdx i) o'->Q (some en) {s with heap:=h',toks:=tk}):wpAny (model prog G.w) A (DQ a u) Q E s:=by
 obtain⟨es,hd,sz⟩:=d.size rk.length;unfold DQ
 try with_reducible refine Av ?_
 refine Aa (MJ r hx hu λtk=>Aa (MI (s:={s with toks:=tk}) ho d rk nd hk r hx hu ?_))
 rw[e];have il:=(Ly x (vs:=ks) rfl e).2.2;refine Aa (Cd (s:={s with toks:=tk}) ho hd ?_)
 rw[E5 (show i<es.size by lia)];exact Aa (DP (hz:=by lia) (s:={s with toks:=tk}) ho hd (Ab (fin _ tk _ _ (ep+1) (.update ..) (Bn _ ho (Dd (Cy hd _))) (d.erase i))))
end
end
noncomputable def Ma(xs:List D):Int->Option D
 | .ofNat n=>xs[n]?
 | .negSucc n=>if n<xs.length then xs[xs.length - 1 - n]? else none
noncomputable def Jz:GJ:=λx y hd k=>match y with
 | .int i=>(match seqD hd x with
  | some xs=>(match Ma xs i with | some d=>k d hd | none=>False)
  | none=>(match x with | .str z=>(match i with | .ofNat n=>z.length<=An/\(match z.cps.toList[n]? with | some c=>k (.str ⟨#[c]⟩) hd | none=>False) | _=>False) | _=>False))
 | _=>False
noncomputable def HX(x:D)(hd:Hd)(k:Addr->Bool->List D->List D->Prop):Prop:=match x with
 | .ref a=>(match hd a with | some (.dct t ks vs)=>k a t ks vs | _=>False)
 | _=>False
noncomputable def Ll(x:D)(hd:Hd)(k:Addr->Bool->List D->List D->Prop):Prop:=match x with
 | .ref a=>(match hd a with | some (.wlk t _ ks vs)=>k a t ks vs | _=>False)
 | _=>False
noncomputable def IK:GJ:=λx y hd k=>HX x hd λ_ t ks vs=>bif G3 t y then(match G7 ks vs y with | some d=>k d hd | none=>False) else False
noncomputable def LH:GJ:=λx y hd k=>Ll x hd λ_ t ks vs=>bif G3 t y then(match G7 ks vs y with | some d=>k d hd | none=>False) else False
noncomputable def J0:GJ:=λx y hd k=>match x with
 | .ref a=>(match hd a with | some (.dct _ _ _)=>IK x y hd k | _=>Jz x y hd k)
 | _=>Jz x y hd k
noncomputable def Gn:GJ:=λx y hd k=>match x with
 | .ref a=>(match hd a with | some (.wlk _ _ _ _)=>LH x y hd k | _=>J0 x y hd k)
 | _=>J0 x y hd k
noncomputable def LZ(neg:Bool):GJ:=λx y hd k=>HX y hd λ_ t ks _=>bif G3 t x then k (.bl (bif neg then !ks.any λz=>Gf z x else ks.any λz=>Gf z x)) hd else False
noncomputable def LI(neg:Bool):GJ:=λx y hd k=>Ll y hd λ_ t ks _=>bif G3 t x then k (.bl (bif neg then !ks.any λz=>Gf z x else ks.any λz=>Gf z x)) hd else False
noncomputable def K2(neg:Bool):GJ:=λx y hd k=>match y with
 | .ref a=>(match hd a with | some (.dct _ _ _)=>LZ neg x y hd k | _=>LX neg x y hd k)
 | _=>LX neg x y hd k
noncomputable def GN(neg:Bool):GJ:=λx y hd k=>match y with
 | .ref a=>(match hd a with | some (.wlk _ _ _ _)=>LI neg x y hd k | _=>K2 neg x y hd k)
 | _=>K2 neg x y hd k
theorem KR{x:D}{hd:Hd}{k:Addr->Bool->List D->List D->Prop}(h:HX x hd k):∃a t ks vs,x= .ref a/\hd a=some (.dct t ks vs)/\k a t ks vs:=by
 unfold HX at h
 split at h<;>try exact h.elim
 split at h<;>try exact h.elim
 exact⟨_,_,_,_,rfl,by assumption,h⟩
theorem Pp{x:D}{hd:Hd}{k:Addr->Bool->List D->List D->Prop}(h:Ll x hd k):∃a t ep ks vs,x= .ref a/\hd a=some (.wlk t ep ks vs)/\k a t ks vs:=by
 unfold Ll at h
 split at h<;>try exact h.elim
 split at h<;>try exact h.elim
 exact⟨_,_,_,_,_,rfl,by assumption,h⟩
theorem JB{b:Bool}{p:Prop}(h:bif b then p else False):b=true/\p:=by cases b<;>simp_all
theorem L4:(An:Nat)<2^63:=by rw[sizeLine_eq];decide
section
variable{X:Cx}{pins:List (Addr×Obj)}{vl:List (D×Value)}{σ:Sd}{H:Hx}{s:Shared}{k:DK}
theorem DctOk.ty{G:Ev}{h:Heap}{a t ep ks vs}(d:DctOk G h H a t ep ks vs)(s:Shared)(e:s.heap=h):s.TypeIs (.ref a) "dict":=let⟨_,_,_,_,o,_,_,ho,⟨c,_⟩,_⟩:=d;⟨o,e ▸ ho,c.1⟩
theorem Qv(hr:GE X){a t ep ks vs y d u}(I:Inv X pins vl σ H s)(dc:DctOk X.ev s.heap H a t ep ks vs)(r:Rv X.ev s.heap H y u)(hk:G3 t y=true)(l:G7 ks vs y=some d)(q:k d H.hd):X.W (getItem (.ref a) u) (EP X pins vl σ k) s:=by
 have ty:=dc.ty s rfl;obtain⟨_,_,nd,ka,o,us,ws,ho,dd,rk,rv⟩:=dc;unfold getItem
 try with_reducible refine Av ?_
 refine Aa (CK ty (by decide) ?_);refine Aa (AJ (name:=Au "__getitem__") ty slot_dict_getitem (A7 slot_dict_getitem ty entry_dict_getitem ?_ (args_dict_getitem _ _)));show wpAny _ _ (dictGet a u>>=_) _ _ s;have lv:ks.length=vs.length:=by rw[rk.length,rv.length];obtain⟨_,es,_,e1,e2,_⟩:=dd;rw[<-e1,<-e2];simp
 rw[ME y lv] at l;obtain⟨i,e,l⟩:=EK.mp l;obtain⟨w,ew,rw'⟩:=rv.get l;refine Aa (Of (G:=X.ev) ho dd rk nd ka r hk (by unfold GE at hr;rw[Bh];lia) λtk=>?_);rw[e,Ci,ew];exact Ab ⟨w,rfl,Ab ((I.tok tk).ret rw' q)⟩
theorem P4(hr:GE X)(neg:Bool){a t ep ks vs y u}(I:Inv X pins vl σ H s)(dc:DctOk X.ev s.heap H a t ep ks vs)(r:Rv X.ev s.heap H y u)(hk:G3 t y=true)(q:k (.bl (bif neg then !ks.any λz=>Gf z y else ks.any λz=>Gf z y)) H.hd):X.W (BC (JJ neg) u (.ref a)) (EP X pins vl σ k) s:=by
 have ty:=dc.ty s rfl;obtain⟨_,hd,nd,ka,o,us,ws,ho,dd,rk,rv⟩:=dc;have main:∀{Q:Bool->Shared->Prop},(∀tk,Q (ks.any λz=>Gf z y) {s with toks:=tk})->X.W (contains (.ref a) u) Q s:=λ{Q}q=>by
  unfold contains
  try with_reducible refine Av ?_
  refine Aa (Bw ty slot_dict_contains.lookup ?_);show wpAny _ _ (if(some (Value.builtin "dict.__contains__")==some Value.none)=true then _ else _) _ _ s
  rw[if_neg (by rw[beq_builtin_none];exact Bb)];refine Aa (wpAny_callSpecialUnlessNone?_slot (name:=Au "__contains__") ty slot_dict_contains (A7 slot_dict_contains ty entry_dict_contains ?_ (args_dict_contains _ _)));show wpAny _ _ (dictGet a u>>=_) _ _ s;refine Aa (Of (G:=X.ev) ho dd rk nd ka r hk (by unfold GE at hr;rw[Bh];lia) λtk=>?_);have q:=q tk;rw[Nm] at q;have il:∀{i},Gp ks y=some i->i<ws.length:=λ{i}e=>by have:=(Ly y (vs:=ks) rfl e).2.2;obtain⟨_,es,_,e1,e2,_⟩:=dd;have l:=rk.length;rw[<-e1] at l;rw[<-e2];simp at l ⊢;lia
  cases e:Gp ks y with
  | none=> rw[e] at q;show wpAny _ _ (Builtin.Dict.pendingKey? a u>>=_) _ _ _;exact Aa (wpAny_pendingKey_other hd (Ab ⟨_,rfl,AR q⟩))
  | some i=> rw[e] at q;rw[Ci,Ap (il e)];show wpAny _ _ (ret (.bool true)) _ _ _;exact Ab ⟨_,rfl,AR q⟩
 cases neg with
 | false=>
  show wpAny _ _ (do return Value.bool (<-contains (.ref a) u):Sem Value) _ _ s
  exact Aa (main λtk=>Ab ((I.tok tk).bl q))
 | true=>
  show wpAny _ _ (do return Value.bool (!(<-contains (.ref a) u)):Sem Value) _ _ s
  exact Aa (main λtk=>Ab ((I.tok tk).bl q))
theorem Qw:GS X getItem Jz:=by
 intro pins vl s σ H k x u y w I q;unfold Jz at q
 split at q<;>try exact q.elim
 rename_i i
 split at q
 . rename_i xs e
   split at q<;>try exact q.elim
   rename_i d ed;obtain⟨a,us,rfl,p,r,z⟩:=I.tl.seqD I.tl.hv e;have hn:=L4;obtain⟨_,rfl⟩:=I.hv.i;have l:=r.length;cases i with
   | ofNat n=>
    obtain⟨w,ew,rw'⟩:=r.get ed;have lt:=(Ar.mp ew).1;have fin:=I.tl.tl.ret rw' q;rcases p with⟨m,p⟩ | p
    . exact wpAny_getItem_list ⟨_,p,rfl,m,rfl⟩ (Eo _) (by simp;lia) (by simpa using ew) fin
    . exact getItem_tuple (j:=n) p (by show -(2^63)<=(n:Int);lia) (by simp;lia) (by rw[seqIndex_of (by simp) (by simp;lia)];simp) (by simpa using ew) fin
   | negSucc n=>
    unfold Ma at ed;dsimp only at ed
    split at ed<;>try (cases ed;done)
    obtain⟨w,ew,rw'⟩:=r.get ed;have fin:=I.tl.tl.ret rw' q;have ej:(Int.negSucc n+(us.length:Int)).toNat=xs.length - 1 - n:=by rw[<-l];lia
    rcases p with⟨m,p⟩ | p
    . exact wpAny_getItem_list_neg ⟨_,p,rfl,m,rfl⟩ (by lia) (by simp;lia) (by lia) (by simp only[Ay];rw[ej];simpa using ew) fin
    . exact getItem_tuple (j:=xs.length - 1 - n) p (by lia) (by lia) (by rw[seqIndex_neg (by lia) (by simp;lia)];simp only[Ay];rw[ej]) (by simpa using ew) fin
 . split at q<;>try exact q.elim
   split at q<;>try exact q.elim
   rename_i z _ _ n;obtain⟨hz,q⟩:=q
   split at q<;>try exact q.elim
   rename_i c ec;have lt:=(Ar.mp ec).1;have hn:=L4;have hl:z.cps.toList.length=z.length:=by simp[Str.length]
   obtain⟨_,rfl⟩:=I.hv.i;obtain⟨_,rfl⟩:=I.tl.hv.s;exact getItem_str (c:=c) (by simp;lia) (by rw[seqIndex_of (by simp) (by simp;lia)];simpa using ec) (I.tl.tl.str q)
theorem PQ(hr:GE X):GS X getItem IK:=by
 intro pins vl s σ H k x u y w I q;obtain⟨a,t,ks,vs,rfl,e,q⟩:=KR q;obtain⟨hk,q⟩:=JB q
 split at q<;>try exact q.elim
 cases I.tl.hv.r;obtain⟨ep,dc⟩:=I.hok.at' a _ e;exact Qv hr I.tl.tl dc I.hv hk (by assumption) q
theorem Wa(hr:GE X):GS X getItem Gn:=by
 intro pins vl s σ H k x u y w I q;unfold Gn at q
 split at q
 . rename_i a
   split at q
   . obtain⟨a,t,ep,ks,vs,e0,e,q⟩:=Pp q;cases e0;obtain⟨hk,q⟩:=JB q
     split at q<;>try exact q.elim
     cases I.tl.hv.r;exact Qv hr I.tl.tl (I.hok.at' a _ e) I.hv hk (by assumption) q
   . unfold J0 at q;dsimp only at q
     split at q
     . exact PQ hr I q
     . exact Qw I q
 . unfold J0 at q
   split at q
   . rename_i a h;exact(h a rfl).elim
   . exact Qw I q
theorem Nx(hr:GE X)(neg:Bool):GS X (BC (JJ neg)) (GN neg):=by
 intro pins vl s σ H k x u y w I q;unfold GN at q
 split at q
 . rename_i a
   split at q
   . obtain⟨a,t,ep,ks,vs,e0,e,q⟩:=Pp q;cases e0;obtain⟨hk,q⟩:=JB q;cases I.hv.r;exact P4 hr neg I.tl.tl (I.hok.at' a _ e) I.tl.hv hk q
   . unfold K2 at q;dsimp only at q
     split at q
     . obtain⟨a,t,ks,vs,e0,e,q⟩:=KR q;cases e0;obtain⟨hk,q⟩:=JB q;cases I.hv.r;obtain⟨ep,dc⟩:=I.hok.at' a _ e;exact P4 hr neg I.tl.tl dc I.tl.hv hk q
     . exact Pi hr neg I q
 . unfold K2 at q
   split at q
   . rename_i a h;exact(h a rfl).elim
   . exact Pi hr neg I q
end
end Lake
namespace HT
open PySem PyProof.Rows
section
variable{prog:AM}{w:World}{A:Ax}{E:Value->Shared->Prop}{s:Shared}
noncomputable def sIx(n d:Nat):Option Int->Nat
 | none=>d
 | some v=>if v<0 then(v+(n:Int)).toNat else min v.toNat n
theorem sIx_none(n d:Nat):sIx n d none=d:=rfl
theorem sIx_nat(n d k:Nat):sIx n d (some (k:Int))=min k n:=by
 show(if(k:Int)<0 then((k:Int)+(n:Int)).toNat else min (k:Int).toNat n)=min k n
 rw[if_neg (by lia),CL]
theorem V9(n d:Nat)(hd:d<=n)(o:Option Int):sIx n d o<=n:=by
 cases o with
 | none=>exact hd
 | some v=>
  show(if v<0 then(v+(n:Int)).toNat else min v.toNat n)<=n
  by_cases hv:v<0
  . rw[if_pos hv];lia
  . rw[if_neg hv];exact Nat.min_le_right _ _
theorem Qb(v:Int)(n d:Nat):(if v<0 then max (v+(n:Int)) 0 else min v (n:Int))=((sIx n d (some v):Nat):Int):=by
 show(if v<0 then max (v+(n:Int)) 0 else min v (n:Int))=(((if v<0 then(v+(n:Int)).toNat else min v.toNat n):Nat):Int)
 by_cases hv:v<0
 . simp only[if_pos hv];lia
 . simp only[if_neg hv];lia
theorem ZS(lo hi:Option Int)(n:Nat):Dh lo hi 1 (n:Int)=(((sIx n 0 lo:Nat):Int),((sIx n n hi:Nat):Int)):=by
 have h1:¬((1:Int)<0):=by lia
 unfold Dh;simp only[h1,if_false];refine Prod.ext ?_ ?_
 . cases lo with
   | none=>rfl
   | some v=>exact Qb v n 0
 . cases hi with
   | none=>rfl
   | some v=>exact Qb v n n
theorem Z5(i j:Nat):Cz (i:Int) (j:Int) 1=j - i:=by
 unfold Cz;have h1:(1:Int)>0:=by lia
 simp only[h1,if_true,Int.ediv_one]
 split<;>lia
theorem RK{v:Value}{o:Option Int}{Q:Option Int->Shared->Prop}(p:IsPart v o)(h:Q o s):wpAny (model prog w) A (Builtin.Slice.slicePartIndex v) Q E s:=by
 cases p with
 | none=>exact slicePart_none h
 | int i t=>exact slicePart_int h
theorem sliceApplied_gen{sl:Addr}{vl vu:Value}{lo hi:Option Int}{n:Nat}{Q:Int×Int×Nat->Shared->Prop}(hs:s.heap.IsSliceOf sl vl vu .none)(pl:IsPart vl lo)(pu:IsPart vu hi)
 (h:Q (((sIx n 0 lo:Nat):Int),1,sIx n n hi - sIx n 0 lo) s):wpAny (model prog w) A (Ew (.ref sl) (pure (n:Int))) Q E s:=by
 obtain⟨os,hos,hcs,hds⟩:=id hs;unfold Ew Builtin.Slice.sliceFields;refine Aa (Aa (Bx hos hds (x:=vl) rfl (Aa (Bx hos hds (x:=vu) rfl (Aa (Bx hos hds (x:= .none) rfl (Ab ?_)))))));refine Aa (slicePart_none ?_);show wpAny _ _ (if((1:Int)==0)=true then _ else _) _ _ s
 rw[if_neg (by decide)];refine Aa (RK pl (Aa (RK pu (Aa (Ab ?_)))));show wpAny _ _ (match Dh lo hi 1 (n:Int) with | (lo,hi)=>pure (lo,(1:Int),Cz lo hi 1)) _ _ s
 rw[ZS lo hi n];show wpAny _ _ (pure (((sIx n 0 lo:Nat):Int),(1:Int),Cz ((sIx n 0 lo:Nat):Int) ((sIx n n hi:Nat):Int) 1)) _ _ s;rw[Z5];exact Ab h
theorem YZ(xs:Array Value)(i k:Nat):((A6 k).filterMap λ(m:Nat)=>xs[((i:Int)+(m:Int)*1).toNat]?).toArray=((xs.toList.drop i).take k).toArray:=by
 have e:(λ(m:Nat)=>xs[((i:Int)+(m:Int)*1).toNat]?)=λm=>xs[i+m]?:=by
  funext m;have:((i:Int)+(m:Int)*1).toNat=i+m:=by lia
  rw[this]
 rw[e];have:=pick_run xs i k;rw[List.filterMap_map] at this;have e2:((λx=>xs[x]?)∘λx=>i+x)=λm=>xs[i+m]?:=rfl;rw[e2] at this;rw[this]
theorem getItem_tuple_cut{t sl:Addr}{items:Array Value}{vl vu:Value}{lo hi:Option Int}{Q:Value->Shared->Prop}(ht:IsTup s.heap t items)(hs:s.heap.IsSliceOf sl vl vu .none)(pl:IsPart vl lo)(pu:IsPart vu hi)
 (hw:¬(sIx items.size 0 lo=0/\sIx items.size items.size hi=items.size))
 (h:Q (.ref s.heap.objs.size) {s with heap:=s.heap.push {cls:= .type "tuple",data:= .seq ((items.toList.drop (sIx items.size 0 lo)).take (sIx items.size items.size hi - sIx items.size 0 lo)).toArray}})
 (hsz:items.size<=An):wpAny (model prog w) A (getItem (.ref t) (.ref sl)) Q E s:=by
 have htake:sizeOk (.seq ((items.toList.drop (sIx items.size 0 lo)).take (sIx items.size items.size hi - sIx items.size 0 lo)).toArray):=by show((items.toList.drop (sIx items.size 0 lo)).take (sIx items.size items.size hi - sIx items.size 0 lo)).toArray.size<=An;rw[Ay,Cj,CY,A4];lia
 have hj:sIx items.size items.size hi<=items.size:=V9 _ _ (Al _) hi;obtain⟨os,hos,hcs,hds⟩:=id hs;have hTs:s.TypeIs (.ref sl) "slice":=⟨os,hos,hcs⟩;unfold getItem
 try with_reducible refine Av ?_
 first | refine Aa (Ab ?_) | skip
 refine Aa (CK ht.typeIs (by decide) ?_);refine Aa (AJ (name:=Au "__getitem__") ht.typeIs B3
  (A7 B3 ht.typeIs entry_tuple_getitem ?_ (args_tuple_getitem _ _)))
 show wpAny _ _ (CZ (.ref t)>>=_) _ _ s;refine Aa (tupleItemsOf_ ht ?_);refine Aa (Do hTs ?_);rw[if_pos (by decide)];refine Aa (sliceApplied_gen hs pl pu ?_);have hno:¬((((sIx items.size 0 lo:Nat):Int)==0 && (1:Int)==1 && (sIx items.size items.size hi - sIx items.size 0 lo)==items.size)=true):=by intro q;rw[Ae,Ae] at q;have q1:((sIx items.size 0 lo:Nat):Int)=0:=eq_of_beq q.1.1;have q2:sIx items.size items.size hi - sIx items.size 0 lo=items.size:=eq_of_beq q.2;exact hw ⟨by lia,by lia⟩
 show wpAny _ _ (if(((sIx items.size 0 lo:Nat):Int)==0 && (1:Int)==1 && (sIx items.size items.size hi - sIx items.size 0 lo)==items.size)=true then _ else _) _ _ s
 rw[if_neg hno,YZ]
 first
  | exact Aa (m:=C6 _) (Bd (Ab ⟨_,rfl,Ab h⟩) htake)
  | exact Aa (m:=C6 _) (Bd (Aa (Ab (Ab ⟨_,rfl,Ab h⟩))) htake)
  | exact Aa (Aa (m:=C6 _) (Bd (Ab (Ab ⟨_,rfl,Ab h⟩)) htake))
  | exact Aa (Aa (m:=C6 _) (Bd (Ab ⟨_,rfl,Ab h⟩) htake))
end
end HT
namespace Lake
section
variable{prog:AM}{w:World}{A:Ax}{E:Value->Shared->Prop}{s:Shared}
theorem zdq(lo hi:Option Int)(n:Nat):(sliceBounds lo hi none n).1=((HT.sIx n 0 lo:Nat):Int)/\(sliceBounds lo hi none n).2.1=((HT.sIx n n hi:Nat):Int)/\(sliceBounds lo hi none n).2.2=1:=by
 refine⟨?_,?_,rfl⟩
 . cases lo with
   | none=>simp[sliceBounds,HT.sIx]
   | some i=>
    simp only[sliceBounds,HT.sIx,Option.getD_none,show(1:Int)>0 by decide,if_true];by_cases h:i<0
    . simp only[h,if_true]<;>lia
    . simp only[h,if_false]<;>lia
 . cases hi with
   | none=>simp[sliceBounds,HT.sIx]
   | some i=>
    simp only[sliceBounds,HT.sIx,Option.getD_none,show(1:Int)>0 by decide,if_true];by_cases h:i<0
    . simp only[h,if_true]<;>lia
    . simp only[h,if_false]<;>lia
theorem zcS(its:List Value)(lo hi:Option Int):slicePick its.toArray lo hi none=((its.drop (HT.sIx its.length 0 lo)).take (HT.sIx its.length its.length hi - HT.sIx its.length 0 lo)).toArray:=by obtain⟨h1,h2,h3⟩:=zdq lo hi its.toArray.size;unfold slicePick;rw[h1,h2,h3];simp only[sliceRange_one,pick_run,Ay]<;>rfl
theorem Y5{t sl:Addr}{items:Array Value}{vl vu:Value}{lo hi:Option Int}{Q:Value->Shared->Prop}(ht:IsTup s.heap t items)(hs:s.heap.IsSliceOf sl vl vu .none)(pl:IsPart vl lo)(pu:IsPart vu hi)
 (h0:HT.sIx items.size 0 lo=0) (h1:HT.sIx items.size items.size hi=items.size) (h:Q (.ref t) s):wpAny (model prog w) A (getItem (.ref t) (.ref sl)) Q E s:=by
 obtain⟨os,hos,hcs,hds⟩:=id hs;have hTs:s.TypeIs (.ref sl) "slice":=⟨os,hos,hcs⟩;unfold getItem
 try with_reducible refine Av ?_
 first | refine Aa (Ab ?_) | skip
 refine Aa (CK ht.typeIs (by decide) ?_);refine Aa (AJ (name:=Au "__getitem__") ht.typeIs B3
  (A7 B3 ht.typeIs PySem.F.entry_tuple_getitem ?_ (PySem.F.args_tuple_getitem_2 _ _)))
 show wpAny _ _ (CZ (.ref t)>>=_) _ _ s;refine Aa (tupleItemsOf_ ht ?_);refine Aa (Do hTs ?_);rw[if_pos (by decide)];refine Aa (HT.sliceApplied_gen hs pl pu ?_);have yes:((((HT.sIx items.size 0 lo:Nat):Int)==0 && (1:Int)==1 && (HT.sIx items.size items.size hi - HT.sIx items.size 0 lo)==items.size)=true):=by rw[h0,h1];simp
 show wpAny _ _ (if(((HT.sIx items.size 0 lo:Nat):Int)==0 && (1:Int)==1 && (HT.sIx items.size items.size hi - HT.sIx items.size 0 lo)==items.size)=true then _ else _) _ _ s
 rw[if_pos yes];unfold Builtin.Tuple.tupleIsExact;refine Aa (Aa (Do ht.typeIs (Ab ?_)));rw[if_pos (by decide)];exact Aa (BS (Ab ⟨_,rfl,Ab h⟩))
theorem Z4(lo hi:Option Int)(n:Nat):(AF lo hi 1 n).length<=n/\(∀j,hi=some j->0<=j->((AF lo hi 1 n).length:Int)<=j)/\(∀j,lo=none->hi=some j->1<=j->1<=n->0∈AF lo hi 1 n):=by
 refine⟨indices_len_le lo hi n,λj e h0=>?_,λj e1 e2 h1 h2=>?_⟩
 . subst e;unfold AF sliceRange;cases lo<;>simp only[show(1:Int)>0 by decide,if_true,Ac,BD]<;>(split<;>(try split)<;>(try split)<;>(try simp only[Int.ediv_one])<;>lia)
 . subst e1 e2;unfold AF sliceRange;simp only[show(1:Int)>0 by decide,if_true];refine List.mem_map.mpr ⟨0,BA.mpr ?_,?_⟩
   . have:¬j<0:=by lia
     simp only[this,if_false,Int.ediv_one]
     split<;>lia
   . simp
end
noncomputable def WD(b:Expr):Prop:=∀o i,subscripted b false o i=operate [o,i] (getItem o i)
noncomputable abbrev Ke:=Sd->Hd->(Option Int->Hd->Prop)->G9->Prop
noncomputable def T6(X:Cx)(xr:XR)(e:Option Expr)(T:Ke):Prop:=∀{pins vl s σ H k ex},Inv X pins vl σ H s->T σ H.hd k ex->(∀c h,ex c h->xr σ c h)->X.W (evalPart e X.env) (λu s'=>∃o H',Inv X pins vl σ H' s'/\IsPart u o/\k o H'.hd) s
structure DO(X:Cx)(xr:XR)(e:Option Expr)(T:Ke):Prop where
 mk::
 run:T6 X xr e T
instance {X:Cx} {xr:XR} {e:Option Expr} {T:Ke}:CoeFun (DO X xr e T) λ_=>T6 X xr e T:=⟨DO.run⟩
noncomputable def Lk:Ke:=λ_ hd k _=>k none hd
noncomputable def Lj(T:TD):Ke:=λσ hd k e=>T σ hd (λd h=>match d with | .int i=>k (some i) h | _=>False) e
noncomputable def GB(xs:List D)(lo hi:Option Int):List D:=(xs.drop (HT.sIx xs.length 0 lo)).take (HT.sIx xs.length xs.length hi - HT.sIx xs.length 0 lo)
noncomputable def LN(x:D)(lo hi:Option Int)(hd:Hd)(k:DK):Prop:=match x with
 | .tup xs=>k (.tup (GB xs lo hi)) hd
 | d=>(match seqL hd d with | some xs=>k (.lst (GB xs lo hi)) hd | none=>False)
noncomputable def MS(Ta:TD)(Tl Th:Ke):TD:=λσ hd k e=>Ta σ hd (λx h1=>Tl σ h1 (λl h2=>Th σ h2 (λu h3=>LN x l u h3 k) e) e) e
noncomputable def LM(x:D)(lo hi:Option Int)(hd:Hd)(k:DK):Prop:=match x with
 | .str y=>y.length<=100000/\∀z:Str,z.length<=y.length->(∀j,hi=some j->0<=j->(z.length:Int)<=j)->(∀c∈z.cps.toList,c∈y.cps.toList)->(∀j,lo=none->hi=some j->1<=j->1<=y.length->1<=z.length)->k (.str z) hd
 | d=>LN d lo hi hd k
noncomputable def K8(Ta:TD)(Tl Th:Ke):TD:=λσ hd k e=>Ta σ hd (λx h1=>Tl σ h1 (λl h2=>Th σ h2 (λu h3=>LM x l u h3 k) e) e) e
section
variable{X:Cx}{xr:XR}{a b:Expr}{Ta Tb:TD}{pos p2:Pos}{lo hi:Option Expr}{Tl Th:Ke}{f:GJ}
theorem VA{pins vl σ H s x xs u}(I:Inv X pins vl σ H s)(r:Rv X.ev s.heap H x u)(e:seqD H.hd x=some xs):∃T id,s.TypeIs u T/\typeLookup (.type T) (Au "__getitem__")=pure (some (.builtin id)):=by
 obtain⟨a,us,rfl,p,_,_⟩:=I.seqD r e;rcases p with⟨n,p⟩ | ⟨o,h1,h2,_⟩
 . exact⟨"list",_,⟨_,p,rfl⟩,slot_list_getitem.lookup⟩
 . exact⟨"tuple",_,⟨o,h1,h2⟩,B3.lookup⟩
theorem TQ{pins vl σ H s x u y k}(I:Inv X pins vl σ H s)(r:Rv X.ev s.heap H x u)(q:Gn x y H.hd k):∃T id,s.TypeIs u T/\typeLookup (.type T) (Au "__getitem__")=pure (some (.builtin id)):=by
 have dc:∀{a o},x= .ref a->H.hd a=some o->(∀xs,o≠ .lst xs)->(∀C fs,o≠ .ins C fs)->∃T id,s.TypeIs u T/\typeLookup (.type T) (Au "__getitem__")=pure (some (.builtin id)):=λ{a o}ex e n1 n2=>by
  subst ex;cases r.r;have:=I.hok.at' a _ e;cases o with
  | lst xs=>exact absurd rfl (n1 xs)
  | ins C fs=>exact absurd rfl (n2 C fs)
  | dct t ks vs=>obtain⟨_,d⟩:=this;exact⟨"dict",_,d.ty s rfl,slot_dict_getitem.lookup⟩
  | wlk t ep ks vs=>exact⟨"dict",_,DctOk.ty this s rfl,slot_dict_getitem.lookup⟩
 have sq:Jz x y H.hd k->∃T id,s.TypeIs u T/\typeLookup (.type T) (Au "__getitem__")=pure (some (.builtin id)):=λq=>by
  unfold Jz at q
  split at q<;>try exact q.elim
  split at q
  . exact VA I r (by assumption)
  . split at q<;>try exact q.elim
    obtain⟨_,rfl⟩:=r.s;exact⟨"str",_,typeIs_str _ _ _,EB.lookup⟩
 unfold Gn J0 at q
 split at q
 . split at q
   . exact dc rfl (by assumption) (λ_ z=>by cases z) (λ_ _ z=>by cases z)
   . dsimp only at q
     split at q
     . exact dc rfl (by assumption) (λ_ z=>by cases z) (λ_ _ z=>by cases z)
     . exact sq q
 . split at q
   . rename_i a h;exact(h a rfl).elim
   . exact sq q
theorem Vr(hr:GE X)(ha:DE X xr a Ta)(hb:DE X xr b Tb)(hs:WD b):DE X xr (.Subscript a b pos) (FJ Gn Ta Tb):= .mk λI h hx=>Subscript_ (FO (ha I h hx) λ_ _ ⟨_,_,I1,q⟩=>FO (hb I1 q hx) λ_ _ ⟨_,_,I2,q⟩=>let⟨_,_,t,l⟩:=TQ I2 I2.tl.hv q;tail_any t l (Wa hr I2 q) (hs _ _))
theorem Xa:DO X xr none Lk:= .mk λI h _=>by rw[evalPart_none];exact Ab ⟨_,_,I,.none,h⟩
theorem Wi(ha:DE X xr a Ta):DO X xr (some a) (Lj Ta):= .mk λI h hx=>by
 rw[evalPart_some];refine FO (ha I h hx) λu s1 ⟨x,H1,I1,q⟩=>?_;cases x with
 | int i=>obtain⟨_,rfl⟩:=I1.hv.i;exact⟨_,_,I1.tl,.int i _,q⟩
 | _=>exact q.elim
noncomputable def OI(X:Cx)(f:D->Option Int->Option Int->Hd->DK->Prop):Prop:=∀{pins vl s σ H k x v vl' vu lo hi sl},Inv X pins ((x,v)::vl) σ H s->s.heap.IsSliceOf sl vl' vu .none->IsPart vl' lo->IsPart vu hi->f x lo hi H.hd k->
 ∃T id,s.TypeIs v T/\typeLookup (.type T) (Au "__getitem__")=pure (some (.builtin id))/\X.W (getItem v (.ref sl)) (EP X pins vl σ k) s
theorem QT{f:D->Option Int->Option Int->Hd->DK->Prop}(hf:OI X f)(ha:DE X xr a Ta)(hl:DO X xr lo Tl)(hh:DO X xr hi Th):DE X xr (.Subscript a (.Slice lo hi none p2) pos) (λσ hd k e=>Ta σ hd (λx h1=>Tl σ h1 (λl h2=>Th σ h2 (λu h3=>f x l u h3 k) e) e) e):= .mk λ{pins vl s σ H k ex}I h hx=>by
 refine Subscript_ (FO (ha I h hx) λv s1 ⟨x,H1,I1,q1⟩=>?_);refine wpAny_Slice (FO (hl I1 q1 hx) λv1 s2 ⟨l,H2,I2,pl,q2⟩=>FO (hh I2 q2 hx) λvu s3 ⟨u,H3,I3,pu,q3⟩=>?_);rw[evalPart_none];refine Ab ?_;have I4:=I3.new (t':=s3.toks) (ob:={cls:= .type "slice",data:= .fields #[v1,vu,.none]}) rfl;obtain⟨T,id,ht,hT,hg⟩:=hf I4 (Heap.IsSliceOf.new ..) pl pu q3;show wpAny (model X.prog X.w) X.A (subscriptTail a (.Slice lo hi none p2) v (.ref s3.heap.objs.size)) (EP X pins vl σ k) X.xe {s3 with heap:=s3.heap.push {cls:= .type "slice",data:= .fields #[v1,vu,.none]}}
 exact tail_any (ops:=[.ref s3.heap.objs.size,v]) ht hT hg (by with_unfolding_all rfl)
theorem Pt(xs:List D)(lo hi:Option Int):(GB xs lo hi).length<=xs.length:=by unfold GB;rw[Cj,CY];lia
theorem Rvs.cut{G:Ev}{h:Heap}{H:Hx}{xs:List D}{us:List Value}(r:Rvs G h H xs us)(lo hi:Option Int):Rvs G h H (GB xs lo hi) ((us.drop (HT.sIx us.length 0 lo)).take (HT.sIx us.length us.length hi - HT.sIx us.length 0 lo)):=by unfold GB;rw[r.length];exact(r.drop _).take _
theorem LL:OI X LN:=λ{pins vl s σ H k x v vl' vu lo hi sl}I hs pl pu q=>by
 have go:(match seqL H.hd x with | some xs=>k (.lst (GB xs lo hi)) H.hd | none=>False)->∃T id,s.TypeIs v T/\typeLookup (.type T) (Au "__getitem__")=pure (some (.builtin id))/\X.W (getItem v (.ref sl)) (EP X pins vl σ k) s:=λq=>by
  split at q<;>try exact q.elim
  rename_i xs e;obtain⟨a,us,n,rfl,p,r,z⟩:=I.seqL I.hv e;refine⟨"list",_,⟨_,p,rfl⟩,slot_list_getitem.lookup,wpAny_getItem_list_slice ⟨_,p,rfl,n,rfl⟩ hs pl pu .none (by simp) ?_ (by simpa using z)⟩;rw[zcS];exact I.tl.lstN (r.cut lo hi) (At (Pt _ _ _) (r.length ▸ z)) q
 cases x with
 | tup xs=>
  have rv:=I.hv;cases rv with | @tup a us _ p r=>
   obtain⟨f,z,o,n,e1,e2,e4,e3,e5⟩:=id p;have ht:IsTup s.heap a us.toArray:=⟨o,e1,e2,n,e3⟩;refine⟨"tuple",_,⟨o,e1,e2⟩,B3.lookup,?_⟩;by_cases hw:HT.sIx us.toArray.size 0 lo=0/\HT.sIx us.toArray.size us.toArray.size hi=us.toArray.size
   . refine Y5 ht hs pl pu hw.1 hw.2 (I.tl.ret I.hv ?_);have:GB xs lo hi=xs:=by
      rw[Ay,<-r.length] at hw;unfold GB;rw[hw.1,hw.2,Fn,Nat.sub_zero];exact B9 (Al _)
     rw[<-this];exact q
   . refine HT.getItem_tuple_cut ht hs pl pu hw ?_ (by simpa using z);have:=I.tl.tup (r.cut lo hi) (At (Pt _ _ _) (r.length ▸ z)) q;simpa using this
 | _=>exact go q
theorem Ux(ha:DE X xr a Ta)(hl:DO X xr lo Tl)(hh:DO X xr hi Th):DE X xr (.Subscript a (.Slice lo hi none p2) pos) (MS Ta Tl Th):=QT LL ha hl hh
theorem Ow:OI X LM:=λ{pins vl s σ H k x v vl' vu lo hi sl}I hs pl pu q=>by
 cases x with
 | str y=>
  cases I.hv with | str _ t=>
   obtain⟨hl,q⟩:=q;obtain⟨l,el,e1⟩:∃l:Option (Int×Tok),vl'=partValue l/\l.map (·.1)=lo:=by
    cases pl with
    | none=>exact⟨none,rfl,rfl⟩
    | int i t=>exact⟨some (i,t),rfl,rfl⟩
   obtain⟨u,eu,e2⟩:∃l:Option (Int×Tok),vu=partValue l/\l.map (·.1)=hi:=by
    cases pu with
    | none=>exact⟨none,rfl,rfl⟩
    | int i t=>exact⟨some (i,t),rfl,rfl⟩
   have hS:s.heap.IsSlice sl l u none:=by obtain⟨o,h1,h2,h3⟩:=hs;exact⟨o,h1,h2,by rw[h3,el,eu];rfl⟩
   have pk:slicePicked y l u none=AF lo hi 1 y.length:=by unfold slicePicked;rw[e1,e2];rfl
   obtain⟨p1,p2,p3⟩:=Z4 lo hi y.length;have hsz:(100000:Nat)<=An:=by decide
   refine⟨"str",_,typeIs_str s y t,EB.lookup,?_⟩;refine getItem_meets (typeIs_str s y t) (by decide) PySem.F.slot_str_getitem PySem.F.entry_str_getitem (PySem.F.args_str_getitem_2 _ _) (meets_str_getitem_slice y t sl l u none rfl) ⟨hS,?_⟩;unfold sliceMade;rw[pk]
   split
   . rename_i hc;have hc:(AF lo hi 1 y.length).length=y.length:=by simpa using hc
     exact I.tl.ret (.str y t) (q y (Al _) (λj e h0=>by have:=p2 j e h0;lia) (λc hc=>hc) λ_ _ _ _ z=>z)
   . have hz:(⟨((AF lo hi 1 y.length).filterMap (y.cps[·]?)).toArray⟩:Str).length<=(AF lo hi 1 y.length).length:=by
      show(List.filterMap _ _).toArray.size<=_;rw[Ay];exact List.length_filterMap_le _ _
     refine⟨by lia,I.tl.str (q _ (by lia) (λj e h0=>by have:=p2 j e h0;lia) (λc hc=>?_) λj f1 f2 f3 f4=>?_)⟩
     . have hc:c∈(AF lo hi 1 y.length).filterMap (y.cps[·]?):=by simpa using hc
       obtain⟨i,_,hi'⟩:=By.mp hc;exact Cw.mpr (Array.mem_of_getElem? hi')
     . have m0:=p3 j f1 f2 f3 f4;show 1<=(List.filterMap _ _).toArray.size;rw[Ay];have h0:0<y.cps.size:=f4;have:y.cps[0]'h0∈(AF lo hi 1 y.length).filterMap (y.cps[·]?):=By.mpr ⟨0,m0,by simp[h0]⟩;exact Fc this
 | _=>exact LL I hs pl pu q
theorem UK(ha:DE X xr a Ta)(hl:DO X xr lo Tl)(hh:DO X xr hi Th):DE X xr (.Subscript a (.Slice lo hi none p2) pos) (K8 Ta Tl Th):=QT Ow ha hl hh
end
noncomputable def Kc(x:D)(hd:Hd)(k:Addr->List D->Prop):Prop:=match x with
 | .ref a=>(match hd a with | some (.lst xs)=>k a xs | _=>False)
 | _=>False
noncomputable def Kq:J5:=λx y z hd k=>Kc x hd λa xs=>(match y with | .int (.ofNat n)=>(bif Nat.blt n xs.length then k (put hd a (.lst (xs.set n z))) else False) | _=>False)
noncomputable def KJ:J5:=λx y z hd k=>HX x hd λa t ks vs=>bif G3 t y then(ks.length<An/\k (put hd a (.dct t (G2 ks y) (Hb ks vs y z)))) else False
noncomputable def Hw:J5:=λx y z hd k=>match x with
 | .ref a=>(match hd a with | some (.dct _ _ _)=>KJ x y z hd k | _=>Kq x y z hd k)
 | _=>False
theorem No{x:D}{hd:Hd}{k:Addr->List D->Prop}(h:Kc x hd k):∃a xs,x= .ref a/\hd a=some (.lst xs)/\k a xs:=by
 unfold Kc at h
 split at h<;>try exact h.elim
 split at h<;>try exact h.elim
 exact⟨_,_,rfl,by assumption,h⟩
section
variable{X:Cx}{pins:List (Addr×Obj)}{vl:List (D×Value)}{σ:Sd}{H:Hx}{s:Shared}{h':Heap}{t':Nat}{p:Addr}{o o':OD}{xs ys ks vs:List D}{us ws:List Value}{n:Nat}
theorem Im.wr{h:Heap}(e:H.hd p=some o)(sb:AU p h h'):Im h H h' (H.to (put H.hd p o')):=λb u q f=>by
 have nb:b≠p:=by rintro rfl;cases e.symm.trans f.1
 exact⟨(sb.2 b nb).trans q,(FR nb).trans f.1,f.2⟩
theorem Inv.lset(I:Inv X pins vl σ H s)(e:H.hd p=some o)(sb:AU p s.heap h')(l:HY h' p us n)(r:Rvs X.ev s.heap H ys us)(z:ys.length<=An):Inv X pins vl σ (H.to (put H.hd p (.lst ys))) {s with heap:=h',toks:=t'}:=
 I.write ⟨_,e⟩ (.inl rfl) sb ⟨_,l⟩ ⟨us,n,z,r.im (.wr e sb),l⟩
theorem Inv.dset{t:Bool}{ep:Nat}{ob:Obj}(I:Inv X pins vl σ H s)(e:H.hd p=some o)(sb:AU p s.heap h')(l:h'.get? p=some ob)(y:(p==BR)=false)(d:DObj X.w ks ep us ws ob)(r1:Rvs X.ev s.heap H ks us)(r2:Rvs X.ev s.heap H vs ws)(z:ks.length<=An)(nd:ks.Nodup)(ka:ks.all (G3 t)=true):
 Inv X pins vl σ (H.to (put H.hd p (.dct t ks vs))) {s with heap:=h',toks:=t'}:=I.write ⟨_,e⟩ (.inl rfl) sb ⟨_,l⟩ ⟨ep,z,y,nd,ka,ob,us,ws,l,d,r1.im (.wr e sb),r2.im (.wr e sb)⟩
theorem DObj.len{w:World}{ep:Nat}{ob:Obj}(d:DObj w ks ep us ws ob):us.length=ws.length:=by obtain⟨_,es,_,e1,e2,_⟩:=d;rw[<-e1,<-e2];simp
theorem T_:Mc X Kq:=by
 intro pins vl s σ H x y z ov iv u k I q;obtain⟨a,xs,rfl,e,q⟩:=No q
 split at q<;>try exact q.elim
 rename_i n _;obtain⟨lt,q⟩:=JB q;have lt:n<xs.length:=CF.mp lt;obtain⟨_,rfl⟩:=I.hv.i;cases I.tl.hv.r;obtain⟨us,m,hz,r,ho⟩:=I.hok.at' a _ e;have l:=r.length;have hn:=L4;have e2:=EA ho (f:=λz=>z.setIfInBounds n u);rw[show us.toArray.setIfInBounds n u=(us.set n u).toArray by simp] at e2;exact PySem.W.ki_setAt ho (Eo n) (by show(n:Int)<2^63;lia) (by rw[Ay,<-l];exact Int.ofNat_lt.mpr lt) ⟨_,I.tl.tl.tl.lset e (.update ..) e2 (r.set n I.tl.tl.hv) (by rw[List.length_set];exact hz),q⟩
theorem O_(hr:GE X):Mc X KJ:=by
 intro pins vl s σ H x y z ov iv u k I q;obtain⟨a,t,ks,vs,rfl,e,q⟩:=KR q;obtain⟨hk,hz,q⟩:=JB q;cases I.tl.hv.r;obtain⟨ep,dc⟩:=I.hok.at' a _ e;have ty:=dc.ty s rfl;obtain⟨_,y0,nd,ka,o,us,ws,ho,dd,rk,rv⟩:=dc;unfold setItem
 try with_reducible refine Av ?_
 refine Aa (CK ty (by decide) ?_);refine Aa (AJ (name:=Au "__setitem__") ty slot_dict_setitem (A7 slot_dict_setitem ty entry_dict_setitem ?_ (args_dict_setitem _ _ _)));show wpAny _ _ (Builtin.Dict.notOrdered "__setitem__" ⟨[.ref a,iv,u],[]⟩>>=_) _ _ s;refine Aa (CO ty ?_);show wpAny _ _ (dictSet a iv u>>=_) _ _ s;refine Aa (QV (G:=X.ev) ho dd rk nd ka I.hv hk (by unfold GE at hr;rw[Bh];lia) (BI hz) λtk h' o' ep' us' ws' sb e' d' f1 f2=>Ab ⟨.none,rfl,Ab ⟨_,I.tl.tl.tl.dset e sb e' y0 d' (f1 rk I.hv) (f2 rk rv I.tl.tl.hv (by rw[rk.length,rv.length,dd.len])) ?_ (LD nd) (NU ka hk),q⟩⟩);have:=MA y ks;lia
theorem TZ(hr:GE X):Mc X Hw:=by
 intro pins vl s σ H x y z ov iv u k I q;unfold Hw at q
 split at q<;>try exact q.elim
 split at q
 . exact O_ hr I q
 . exact T_ I q
end
noncomputable def IU(To Ti:TD)(f:J5)(ex:G9):GT:=λd σ hd k=>To σ hd (λx h1=>Ti σ h1 (λy h2=>f x y d h2 λh3=>k σ h3) ex) ex
noncomputable def OQ(get ip:GJ)(st:J5)(To Ti Te:TD):GC:=λE σ hd=>To σ hd (λo h1=>Ti σ h1 (λi h2=>get o i h2 (λx h3=>Te σ h3 (λy h4=>ip x y h4 (λz h5=>st o i z h5 (λh6=>E.nx σ h6))) (E.xc σ))) (E.xc σ)) (E.xc σ)
noncomputable def IQ(To Ti:TD):GC:=λE σ hd=>To σ hd (λx h1=>Ti σ h1 (λy h2=>HX x h2 λa t ks vs=>bif G3 t y && ks.any (λz=>Gf z y) then E.nx σ (put h2 a (.dct t (Ig ks y) (Iv ks vs y))) else False) (E.xc σ)) (E.xc σ)
noncomputable def Lr(t:Bool)(To Ti Te:TD):TD:=λσ hd k e=>To σ hd (λx h1=>HX x h1 λa t' _ _=>t'=t/\Ti σ h1 (λy h2=>Te σ h2 (λz h3=>match h3 a with | some (.dct t'' ks vs)=>(t''=t/\(bif G3 t y then k ((G7 ks vs y).getD z) h3 else False)) | _=>False) e) e) e
noncomputable def Nd(t:Bool)(To Ti Te:TD):TD:=λσ hd k e=>To σ hd (λx h1=>HX x h1 λa t' _ _=>t'=t/\Ti σ h1 (λy h2=>Te σ h2 (λz h3=>match h3 a with
 | some (.dct t'' ks vs)=>(t''=t/\ks.length<An/\(bif G3 t y then(match G7 ks vs y with | some d=>k d h3 | none=>k z (put h3 a (.dct t (G2 ks y) (Hb ks vs y z)))) else False)) | _=>False) e) e) e
noncomputable def Mr(t:Bool):TD:=λ_ hd k _=>∀p,hd p=none->k (.ref p) (put hd p (.dct t [] []))
structure M2(X:Cx)(o:Expr)(m:Str)(apos:Pos)(e f:Expr)(cpos:Pos):Prop where
 base:attributeBase o m X.env (eval o X.env)=eval o X.env
 few:((backTo cpos (Ai [e,f] X.env)).all (λx=>!x.1) && (backToKw cpos (keywordEach [] X.env)).all (λx=>x.1.isSome)
  && decide (([e,f]:List Expr).length+([]:List Keyword).length+(if([]:List Keyword).isEmpty then 0 else 1)<30))=true
 line:(apos.endLine==cpos.line)=true
 trees:backTo cpos (Ai [e,f] X.env)=[(false,eval e X.env),(false,eval f X.env)]
section
variable{X:Cx}{xr:XR}{o i e f:Expr}{To Ti Te:TD}{op:Operator}{tpos pos apos cpos:Pos}{t:Bool}
theorem UP{f:J5}(hs:Mc X f)(ho:DE X GV o To)(hi:DE X GV i Ti)(ha:∀v,assign (.Subscript o i pos) X.env v=(do
 let ov <-holding [v] (eval o X.env)
 let iv <-holding [v,ov] (eval i X.env)
 standAt pos
 holding [v,ov,iv] (setItem ov iv v)
 release [v,ov,iv] []):=by intro _;rfl):DG X (.Subscript o i pos) (IU To Ti f (λ_ _=>False)):= .mk λI h=>by
 rw[ha];exact Aa (Av (FO (ho I h λ_ _ z=>z) λ_ _ ⟨_,_,I2,q⟩=>Aa (Av (FO (hi I2 q λ_ _ z=>z) λ_ _ ⟨_,_,I3,q⟩=>Aa (Cp (Aa (Av (FO (hs I3 q) λ_ _ ⟨_,I4,q⟩=>wpAny_release ⟨_,_,I4,q⟩))))))))
theorem Wj{ip:GJ}(hr:GE X)(ho:DE X xr o To)(hi:DE X xr i Ti)(he:DE X xr e Te)(hp:GS X (inplaceOp op) ip)
 (ha:∀ov iv new,augStore i ov iv new=(do holding [new,ov,iv] (setItem ov iv new);release [new,ov,iv] [];pure .next):=by intros;rfl):DS X xr (.AugAssign (.Subscript o i tpos) op e pos) (OQ IK ip KJ To Ti Te):=Wk (PQ hr) hp (O_ hr) ho hi he ha
theorem VL:GS X (inplaceOp .Sub) (HV λi j=> .int (i - j)):=Mp λ_ _ _ _ I q=>isub_int (I.int q)
theorem UU(hr:GE X)(ho:DE X xr o To)(hi:DE X xr i Ti):DS X xr (.Delete [.Subscript o i tpos] pos) (IQ To Ti):= .mk λ{pins vl s σ H E}I h hx=>by
 refine wpAny_Delete (wpAny_deleteEach_cons (wpAny_delete_Subscript (FO (ho I h (hx _)) λu s1 ⟨x,H1,I1,q1⟩=>FO (hi I1 q1 (hx _)) λiv s2 ⟨y,H2,I2,q⟩=>?_)));obtain⟨a,t,ks,vs,rfl,e,q⟩:=KR q;obtain⟨hk,q⟩:=JB q;rw[Ae,Nm] at hk;obtain⟨j,ej⟩:=C7.mp hk.2;cases I2.tl.hv.r;obtain⟨ep,dc⟩:=I2.hok.at' a _ e;have ty:=dc.ty s2 rfl;obtain⟨hz,y0,nd,ka,o,us,ws,ho,dd,rk,rv⟩:=dc;unfold delItem
 try with_reducible refine Av ?_
 refine Aa (CK ty (by decide) ?_);refine Aa (AJ (name:=Au "__delitem__") ty E6 (A7 E6 ty PySem.F.entry_dict_delitem ?_ (PySem.F.args_dict_delitem_2 _ _)));unfold Builtin.«dict.__delitem__»;refine Aa ?_;unfold Builtin.Dict.dictSlotArgs;refine Aa (CO ty ?_);show wpAny _ _ (pure (Value.ref a,iv)) _ _ _;refine Ab ?_;show wpAny _ _ (DQ a iv>>=_) _ _ _;refine Aa (XO (G:=X.ev) ho dd rk nd ka I2.hv hk.1 (by unfold GE at hr;rw[Bh];lia) hz ej λen tk h' o' ep' sb e' d'=>Aa (Db (Ab ⟨.none,rfl,Ab (Ab ?_)⟩)));obtain⟨d1,d2,_⟩:=Ly y (show ks.length=vs.length by rw[rk.length,rv.length,dd.len]) ej;refine⟨σ,_,I2.tl.tl.dset (ks:=Ig ks y) (vs:=Iv ks vs y) e sb e' y0 (by rw[d1];exact d') (by rw[d1];exact rk.erase j) (by rw[d2];exact rv.erase j) ?_ ?_ ?_,q⟩
 . rw[d1];exact At (EL _ _) hz
 . rw[d1];exact nd.sublist (List.eraseIdx_sublist _ _)
 . rw[d1];exact List.all_eq_true.mpr λz m=>A3.mp ka z (List.mem_of_mem_eraseIdx m)
theorem DctOk.me{G:Ev}{s:Shared}{H:Hx}{a t ep ks vs}(d:DctOk G s.heap H a t ep ks vs):s.TypeIs (.ref a) "dict"/\∀b,Value.ref a= .ref b->∃ob,s.heap.get? b=some ob/\ob.dict=none:=by obtain⟨_,_,_,_,o,_,_,ho,⟨c,_⟩,_⟩:=d;exact⟨⟨o,ho,c.1⟩,λb e=>by cases e;exact⟨o,ho,c.2.1⟩⟩
theorem Q4(hr:GE X)(ho:DE X xr o To)(he:DE X xr e Te)(hf:DE X xr f Ti)(m:M2 X o "get" apos e f cpos):DE X xr (.Call (.Attribute o "get" apos) [e,f] [] cpos) (Lr t To Te Ti):= .mk λ{pins vl s σ H k ex}I h hx=>by
 refine wpAny_Call_method m.base m.few m.line EM Fo PySem.F.type_dict_get (FO (ho I h hx) λu s1 ⟨x,H1,I1,q1⟩=>?_);obtain⟨a,t',ks,vs,rfl,e1,_,q1⟩:=KR q1;cases I1.hv.r;obtain⟨ep,dc⟩:=I1.hok.at' a _ e1;refine⟨dc.me.1,dc.me.2,?_⟩;rw[m.trees];refine D5 rfl (DR (BW (FO (he I1.tl q1 hx) λiv s2 ⟨y,H2,I2,q2⟩=>BW (FO (hf I2 q2 hx) λfv s3 ⟨z,H3,I3,q⟩=>CJ ?_))))
 split at q<;>try exact q.elim
 rename_i t'' ks vs e3;obtain⟨rfl,q⟩:=q;obtain⟨hk,q⟩:=JB q;obtain⟨ep,dc⟩:=I3.hok.at' a _ e3;have ty:=dc.ty s3 rfl;obtain⟨hz,y0,nd,ka,o,us,ws,ho,dd,rk,rv⟩:=dc;refine A7 Fo ty PySem.F.entry_dict_get ?_ (PySem.F.args_dict_get_3 _ _ _);show wpAny _ _ (dictGet a iv>>=_) _ _ _;refine Aa (Of (G:=X.ev) ho dd rk nd ka I3.tl.hv hk (by unfold GE at hr;rw[Bh];lia) λtk=>?_);rw[ME y (by rw[rk.length,rv.length,dd.len])] at q;cases l:(Gp ks y).bind λi=>vs[i]? with
 | some d=> rw[l] at q;obtain⟨i,ei,l⟩:=EK.mp l;obtain⟨w,ew,rw'⟩:=rv.get l;rw[ei,Ci,ew];exact Ab ⟨w,rfl,(I3.tl.tl.tok tk).ret rw' q⟩
 | none=>
  rw[l] at q;have:((Gp ks y).bind λi=>ws[i]?)=none:=by
   cases ei:Gp ks y with
   | none=>rfl
   | some i=>rw[ei,Ci] at l;rw[Ci];have:=Df.mp l;rw[rv.length] at this;exact List.getElem?_eq_none_iff.mpr this
  rw[this];show wpAny _ _ (Builtin.Dict.missed a iv>>=_) _ _ _;exact Aa (wpAny_missed_other y0 (Ab ⟨fv,rfl,(I3.tl.tl.tok tk).ret I3.hv q⟩))
theorem Q5(hr:GE X)(ho:DE X xr o To)(he:DE X xr e Te)(hf:DE X xr f Ti)(m:M2 X o "setdefault" apos e f cpos):DE X xr (.Call (.Attribute o "setdefault" apos) [e,f] [] cpos) (Nd t To Te Ti):= .mk λ{pins vl s σ H k ex}I h hx=>by
 refine wpAny_Call_method m.base m.few m.line EM Eh PySem.F.type_dict_setdefault (FO (ho I h hx) λu s1 ⟨x,H1,I1,q1⟩=>?_);obtain⟨a,t',ks,vs,rfl,e1,_,q1⟩:=KR q1;cases I1.hv.r;obtain⟨ep,dc⟩:=I1.hok.at' a _ e1;refine⟨dc.me.1,dc.me.2,?_⟩;rw[m.trees];refine D5 rfl (DR (BW (FO (he I1.tl q1 hx) λiv s2 ⟨y,H2,I2,q2⟩=>BW (FO (hf I2 q2 hx) λfv s3 ⟨z,H3,I3,q⟩=>CJ ?_))))
 split at q<;>try exact q.elim
 rename_i t'' ks vs e3;obtain⟨rfl,hz,q⟩:=q;obtain⟨hk,q⟩:=JB q;obtain⟨ep,dc⟩:=I3.hok.at' a _ e3;have ty:=dc.ty s3 rfl;obtain⟨_,y0,nd,ka,o,us,ws,ho,dd,rk,rv⟩:=dc;have lv:ks.length=vs.length:=by rw[rk.length,rv.length,dd.len]
 rw[ME y lv] at q;refine A7 Eh ty PySem.F.entry_dict_setdefault ?_ (PySem.F.args_dict_setdefault_3 _ _ _);unfold Builtin.«dict.setdefault»;refine Aa ?_;unfold Builtin.Dict.keyAndDefault;refine Aa (CO ty ?_);show wpAny _ _ (pure (a,iv,some fv)) _ _ _;refine Ab ?_;show wpAny _ _ (if(a==BR)=true then _ else(dictSetDefault a iv fv>>=_)) _ _ _
 rw[if_neg (by rw[y0];exact Bb)];refine Aa (WY (G:=X.ev) ho dd rk nd ka I3.tl.hv hk (by unfold GE at hr;rw[Bh];lia) (BI hz) (λtk i w ei ew=>Ab ⟨w,rfl,?_⟩) dd.len λei tk h' o' ep' us' ws' sb e' d' f1 f2=>Ab ⟨fv,rfl,?_⟩)
 . obtain⟨d,ed,rd⟩:=rv.get' ew;rw[ei,Ci,ed] at q;exact(I3.tl.tl.tok tk).ret rd q
 . rw[ei,Option.bind_none] at q;have I4:=(I3.sub (vl':=(z,fv)::_) λp hp=>by simp at hp ⊢;rcases hp with rfl | hp;exact .inl rfl;exact .inr (.inr hp)).dset (t':=tk) e3 sb e' y0 d' (f1 rk I3.tl.hv) (f2 rk rv I3.hv lv) (by have:=MA y ks;lia) (LD nd) (NU ka hk)
   exact⟨z,_,I4,q⟩
theorem Inv.big{pins vl σ H s}(I:Inv X pins vl σ H s):BR<s.heap.objs.size:=Nat.lt_trans (by decide) (I.ok.mod.glob.keeps I.bk).lt
theorem DObj.new(w:World):DObj w [] 0 [] [] {cls:= .type "dict",data:= .dict #[]}:=⟨⟨rfl,rfl,rfl⟩,#[],rfl,rfl,rfl,rfl⟩
theorem PJ{a:Addr}(h:BR<a):(a==BR)=false:=beq_eq_false_iff_ne.mpr (Be (Ba h))
theorem Q3:DE X xr (.Dict [] [] pos) (Mr t):= .mk λ{pins vl s σ H k ex}I h hx=>wpAny_Dict_empty (by have I1:=I.laid (a:=s.heap.objs.size) (o:= .dct t [] []) (h':=s.heap.push {cls:= .type "dict",data:= .dict #[]}) (t':=s.toks) (λ_ _ q=>Ad _ q) (Al _) ⟨0,AK _,PJ I.big,List.nodup_nil,rfl,_,[],[],Ak _ rfl,DObj.new _,.nil,.nil⟩;exact I1.ret (.ref _) (h _ (I.hok.fresh (Al _)).1))
end
noncomputable def Io(t:Bool)(g:GT)(U:G1)(Tk Tv:TD)(C:Hd->Prop)(k:List D->List D->Hd->Prop):List D->Sd->List D->List D->Hd->Prop
 | [],_,ks,vs,h=>C h/\k ks vs h
 | d::ds,σ,ks,vs,h=>C h/\g d σ h λσ2 h2=>U σ2 h2 (λb h3=>bif b then Tk σ2 h3 (λx h4=>Tv σ2 h4 (λy h5=>G3 t x=true/\Io t g U Tk Tv C k ds σ2 (G2 ks x) (Hb ks vs x y) h5) λ_ _=>False) (λ_ _=>False) else Io t g U Tk Tv C k ds σ2 ks vs h3) λ_ _=>False
noncomputable def L_(t:Bool)(T:IC)(js:Jn)(g:GT)(U:G1)(Tk Tv:TD):TD:=λσ hd k e=>T σ hd (λds C h1=>Io t g U Tk Tv C (λks vs h=>∀p,h p=none->k (.ref p) (put h p (.dct t ks vs))) ds (HA js σ) [] [] h1) e
noncomputable def K4(t:Bool)(Tk Tv:TD):MW (List D×List D):=λb σ h N e=>Tk σ h (λx h4=>Tv σ h4 (λy h5=>G3 t x=true/\N (G2 b.1 x,Hb b.1 b.2 x y) h5) e) e
theorem Qx{t:Bool}{g:GT}{U:G1}{Tk Tv:TD}{C:Hd->Prop}{k:List D->List D->Hd->Prop}:∀{ds:List D}{σ:Sd}{ks vs:List D}{h:Hd},Io t g U Tk Tv C k ds σ ks vs h=J1 g U (K4 t Tk Tv) (λ_ _=>False) C (λb h=>k b.1 b.2 h) ds σ (ks,vs) h
 | [],_,_,_,_=>rfl
 | d::ds,σ,ks,vs,h=>by simp only[Io,J1,K4];simp only[Qx (ds:=ds)]
noncomputable abbrev Po(b:List D×List D):List D:=b.1++b.2
noncomputable def LQ(w:World)(t:Bool)(b:List D×List D)(us:List Value)(o:Obj):Prop:=∃ep u1 w1,us=u1++w1/\b.1.length=u1.length/\b.1.length=b.2.length/\DObj w b.1 ep u1 w1 o/\b.1.Nodup/\b.1.all (G3 t)=true
section
variable{X:Cx}{xr:XR}{tg iter kx vx:Expr}{ifs:List Expr}{T:IC}{js:Jn}{g:GT}{U:G1}{Tk Tv:TD}{N':List Str}{scope:Scope}{pos:Pos}{t:Bool}
theorem DObj.cell{w:World}{ks ep us ws o}(d:DObj w ks ep us ws o)(v:Option Value):o.data≠ .cell v:=by
 obtain⟨_,es,hd,_⟩:=d;rw[hd]
 nofun
theorem Op{G:Ev}{h:Heap}{H:Hx}{ks vs:List D}{us ws:List Value}(r:Rvs G h H (ks++vs) (us++ws))(l:ks.length=us.length):Rvs G h H ks us/\Rvs G h H vs ws:=by have a:=r.take ks.length;have b:=r.drop ks.length;rw[List.take_left,l,List.take_left] at a;rw[List.drop_left,l,List.drop_left] at b;exact⟨a,b⟩
theorem Xs(hr:GE X)(hk:DE X GV kx Tk)(hv:DE X GV vx Tv)(hx:X.xe=λ_ _=>False):Mq X Po (LQ X.w t) (λb=>b.1.length) (K4 t Tk Tv) (λp=>OK (model X.prog X.w) X.A kx vx X.env p):=
 λ{p pins vl s σ H b us o N Q}I ⟨ep,u1,w1,eu,l1,lv,d,nd,ka⟩ l z f q fin=>by
  have E:=hk I q λ_ _ z=>z;unfold Cx.W at E;rw[hx] at E;refine FO E λu s1 ⟨x,H1,I1,q⟩=>?_;have E:=hv I1 q λ_ _ z=>z;unfold Cx.W at E;rw[hx] at E;refine FO E λw s2 ⟨y,H2,I2,kx,q⟩=>?_;have pn:=I2.pin (p,o) (by simp);have rv:Rvs X.ev s2.heap H2 (b.1++b.2) (u1++w1):=by rw[<-eu];exact I2.tl.tl.vals l
  obtain⟨rk,rv⟩:=Op rv l1;refine QV (G:=X.ev) pn.1 d rk nd ka I2.tl.hv kx (by unfold GE at hr;lia) (BI z) λtk h' o' ep' us' ws' sb e' d' f1 f2=>?_;have I3:=I2.turn1 (t':=tk) (f.of pn.2.1) sb e' d'.cell;have rv:Rvs X.ev h' H2 (b.1++b.2) (u1++w1):=by rw[<-eu];exact I3.tl.tl.vals l
  obtain⟨rk,rv⟩:=Op rv l1;have r1:=f1 rk I3.tl.hv;have r2:=f2 rk rv I3.hv lv;exact fin (b':=(G2 b.1 x,Hb b.1 b.2 x y)) (us':=us'++ws') (I3.tl.tl.out.hold (r1.app r2)) ⟨ep',us',ws',rfl,r1.length,by rw[r1.length,r2.length,d'.len],d',LD nd,NU ka kx⟩ (r1.app r2).length (MA x b.1) q
theorem Pz{pins vl s σ H}{k:DK}{ex}{cl:List (Str×Addr)}(hr:GE X)(hc:X.calm=true)(ok:CapOk X N' js scope)(hi:DI X xr tg iter T)
 (hg:∀cl C s₀ H₀ ex,DG (GK X N' scope cl C s₀ H₀ ex) tg g) (ht:∀cl C s₀ H₀ ex,DIfs (GK X N' scope cl C s₀ H₀ ex) GV ifs U) (hk:∀cl C s₀ H₀ ex,DE (GK X N' scope cl C s₀ H₀ ex) GV kx Tk) (hv:∀cl C s₀ H₀ ex,DE (GK X N' scope cl C s₀ H₀ ex) GV vx Tv)
 (h2:∀x c,cl.lookup x=some c->X.env.cells.lookup x=some c) (h3:∀p∈scope.names,p.2= .free->(cl.lookup p.1).isSome=true)
 (I:Inv X pins vl σ H s) (h:L_ t T js g U Tk Tv σ H.hd k ex) (hx:∀c h,ex c h->xr σ c h):
 X.W (eval iter X.env) (λv s1=>X.W (pyIter v) (λit s2=>X.W newDict (λacc s3=>X.W (newFunctionEnv scope X.env.globals cl [] X.env.qual none .none (some X.env)) (λcenv s4=>codeAny (model X.prog X.w) X.A (.compStart (.DictComp kx vx [⟨tg,iter,ifs,0⟩] scope pos) 0 it acc {cenv with scope:=relabel scope X.env})
  (λr s'=>r= .ok .next/\(∃m,s'.heap.Ns cenv.locals m)/\∃p H',acc= .ref p/\Inv X pins ((.ref p,.ref p)::vl) σ H' s'/\FpOk X pins H' cenv.locals/\k (.ref p) H'.hd) s4) s3) s2) s1) s:=
 FO (hi I h hx) λv s1 h1=>FO h1 λitv s2 ⟨it,src,fp,tn,ds,C,H2,e,I2,Tn,st2,f2,z,q⟩=>by
  subst e;refine Bd ?_;rw[Qx] at q;refine FO (QR (held:=Po) (rep:=LQ X.w t) (sz:=λb=>b.1.length) (b0:=([],[])) (Pu:=λenv p=>OK (model X.prog X.w) X.A kx vx env p) hc ok h2 h3 hg ht ⟨0,[],[],rfl,rfl,rfl,DObj.new _,List.nodup_nil,rfl⟩ rfl rfl rfl (λb us o r=>let⟨_,_,_,_,_,_,d,_⟩:=r;d.cell) (λcl C s₀ H₀ ex=>Xs (X:=GK X N' scope cl C s₀ H₀ ex) hr (hk cl C s₀ H₀ ex) (hv cl C s₀ H₀ ex) rfl) (λenv it p=>Yo) (λa b=>codeAny_compStart_dict a (AO b (λ_ _ q=>q) λ_ _ z=>z.elim)) I2 Tn st2 f2 z q) λcenv s4 h4=>BP h4 λr s5 ⟨er,ns,p,b,us,o,H5,ea,I5,l,e,⟨ep,u1,w1,eu,l1,lv,d,nd,ka⟩,z,fp,fc,ne,q⟩=>⟨er,ns,p,H5.take p (.dct t b.1 b.2),ea,?_,fc.of ?_,q p fp.1.1⟩
  . have rv:Rvs X.ev s5.heap H5 (b.1++b.2) (u1++w1):=by rw[<-eu];exact I5.vals l
    obtain⟨rk,rv⟩:=Op rv l1;exact(I5.out.take fp (o:= .dct t b.1 b.2) ⟨ep,z,PJ (by cases ea;exact I2.big),nd,ka,o,u1,w1,e,d,rk.im (.take fp.1),rv.im (.take fp.1)⟩).cons (.ref p)
  . exact⟨(FR (Be ne)).trans fc.1.1,(if_neg (Be ne)).trans fc.1.2⟩
theorem OT(hr:GE X)(hc:X.calm=true)(ok:CapOk X N' js scope)(hi:DI X xr tg iter T)
 (hg:∀cl C s₀ H₀ ex,DG (GK X N' scope cl C s₀ H₀ ex) tg g) (ht:∀cl C s₀ H₀ ex,DIfs (GK X N' scope cl C s₀ H₀ ex) GV ifs U) (hk:∀cl C s₀ H₀ ex,DE (GK X N' scope cl C s₀ H₀ ex) GV kx Tk) (hv:∀cl C s₀ H₀ ex,DE (GK X N' scope cl C s₀ H₀ ex) GV vx Tv)
 (hs:∀x,Cc iter X.env x=pure x:=by intro _;rfl):DE X xr (.DictComp kx vx [⟨tg,iter,ifs,0⟩] scope pos) (L_ t T js g U Tk Tv):= .mk λ{pins vl s σ H k ex}I h hx=>by
 obtain⟨cl,c1,c2,c3⟩:=M7 (scope:=scope) I.ok.has ok.free;show wpAny _ X.A (comprehension (.DictComp kx vx [⟨tg,iter,ifs,0⟩] scope pos) scope X.env _ newDict false (eval iter X.env)) _ _ s;refine C5 (use:=none) rfl hs c1 ok.kind ok.names (FO (Pz hr hc ok hi hg ht hk hv c2 c3 I h hx) λv s1 h1=>FO h1 λit s2 h2=>FO h2 λacc s3 h3=>FO h3 λcenv s4 h4=>BP h4 λr s5 h5=>?_);obtain⟨rfl,⟨m,hm⟩,p,H5,rfl,I5,fc,q⟩:=h5;exact⟨m,hm,λh' sb=>⟨.ref p,_,I5.ended (t':=s5.toks) (fp:=[cenv.locals]) (λb hb=>by cases Af.mp hb;exact fc) (λb u hb e=>(sb.2 b (by simpa using hb)).trans e),q⟩⟩
theorem XW{i:Nat}{x:Str}{px:Pos}{spos:Pos}(hr:GE X)(hN:X.N.Nodup)(hi':X.N[i]?=some x)(hx:KE X.env.scope x)(hc:X.calm=true)(ok:CapOk X N' js scope)(hi:DI X xr tg iter T)
 (hg:∀cl C s₀ H₀ ex,DG (GK X N' scope cl C s₀ H₀ ex) tg g) (ht:∀cl C s₀ H₀ ex,DIfs (GK X N' scope cl C s₀ H₀ ex) GV ifs U) (hk:∀cl C s₀ H₀ ex,DE (GK X N' scope cl C s₀ H₀ ex) GV kx Tk) (hv:∀cl C s₀ H₀ ex,DE (GK X N' scope cl C s₀ H₀ ex) GV vx Tv)
 (hsw:swapsWith (.DictComp kx vx [⟨tg,iter,ifs,0⟩] scope pos) (some (.Name x px)) spos.line X.env=pure true:=by rfl)
 (hs:∀x,Cc iter X.env x=pure x:=by intro _;rfl) (hf:X.fn x=true\/X.env.scope.names.lookup x=some .local:=by first | exact .inl rfl | exact .inr rfl | assumption):
 DS X xr (.Assign [.Name x px] (.DictComp kx vx [⟨tg,iter,ifs,0⟩] scope pos) spos) (Go (L_ t T js g U Tk Tv) (FM i)):= .mk λ{pins vl s σ H E}I h hq=>by
 obtain⟨cl,c1,c2,c3⟩:=M7 (scope:=scope) I.ok.has ok.free;rw[exec_Assign_Name_used _ _ _ _ hsw];refine Aa (Cp (Aa ?_));show wpAny _ X.A (do let _ <-comprehension (.DictComp kx vx [⟨tg,iter,ifs,0⟩] scope pos) scope X.env _ newDict false (eval iter X.env) (some (assign (.Name x px) X.env))) _ _ s
 refine Aa (AO (C5 (use:=some (assign (.Name x px) X.env)) (Q:=λ_ s'=>SP X pins vl E .next s') rfl hs c1 ok.kind ok.names
  (FO (Pz hr hc ok hi hg ht hk hv c2 c3 I h (hq _)) λv s1 h1=>FO h1 λit s2 h2=>FO h2 λacc s3 h3=>FO h3 λcenv s4 h4=>BP h4 λr s5 h5=>?_)) (λ_ s' hq=>Ab (Ab hq)) λ_ _ e=>e)
 obtain⟨rfl,⟨m,hm⟩,p,H5,rfl,I5,fc,q⟩:=h5;show wpAny _ X.A (assign (.Name x px) X.env _) _ _ _;refine E0 (MK I5 hN hi' hx (λs6 I7 ⟨a,sb,ha⟩=>?_) hf);have na:cenv.locals≠a:=by
  rcases ha with z | z
  . rw[z];exact fc.2.1
  . exact λy=>fc.2.2.2.2.1 x a z y.symm
 exact⟨m,hm.sameBut sb na,λh' sb'=>⟨_,_,I7.ended (t':=s6.toks) (fp:=[cenv.locals]) (λb hb=>by cases Af.mp hb;exact fc) (λb u hb e=>(sb'.2 b (by simpa using hb)).trans e),q⟩⟩
end
structure Room(k:Nat)(A:Ax):Prop where
 hd:A.handled=none
 dp:A.depth+3*k+5<recursionLimit
 un:A.units+16*k+200<cLine
 gd:A.guards=some []
section
variable{k j:Nat}{A:Ax}
theorem Room.mono(r:Room k A)(h:j<=k):Room j A:=⟨r.hd,by have:=r.dp;lia,by have:=r.un;lia,r.gd⟩
theorem Room.deeper(r:Room (k+1) A)(env:Env):Room k (A.deeper env):=⟨r.hd,by have:=r.dp;show A.depth+1+3*k+5<_;lia,by have:=r.un;show A.units+3+16*k+200<_;lia,r.gd⟩
noncomputable abbrev Around.mk(A:Ax)(C:Addr)(us:List Value):Ax:=A.under (.builtin "type.__call__" ⟨.ref C::us,[]⟩)
theorem Room.make(r:Room (k+1) A)(C:Addr)(us:List Value):Room k (Around.mk A C us):=
 have d:(Around.mk A C us).depth=A.depth+1:=by first | rfl | simp[EC,Code.weight,Code.isCreation,Code.isGuard,Code.isCaller,Code.frames,Code.isFrame,guardIds]
 have u:(Around.mk A C us).units=A.units+1:=by first | rfl | simp[EC,Code.cUnits,Code.frames,Code.isFrame]
 have g:(Around.mk A C us).guards=A.guards:=by first | rfl | simp[EC,Code.isGuard,guardIds]
 ⟨r.hd,by have:=r.dp;rw[d];lia,by have:=r.un;rw[u];lia,g.trans r.gd⟩
end
theorem HO{X:Cx}{k:Nat}(r:Room k X.A):GE X:=by have:=r.un;unfold GE;lia
structure Fly(G:Ev)(base:Heap)(l:List Env)(H:Hx)(s0:Shared)(a C:Addr)(H':Hx)(s':Shared):Prop where
 ex:∃(B:Heap)(t:Addr),Heap.FlyingW B l a (.ref C) (.ref t) s'.heap/\base.StaysIn B/\(∀b o,H'.hd b=some o->OkO G B H' b o)/\(∀b x,H'.ow b=some x->H'.hd b=none/\(b∈HW l\/∃o,B.get? b=some o))/\∀b o,s0.heap.get? b=some o->H.fr b\/H.so b->b ∉ HW l->∃o',B.get? b=some o'
 os:s'.os=s0.os
 bare:AllBare s'.gens
 un:Un (HW l) [] H H' s0.heap s'.heap
 free:H'.fr a
 new:s0.heap.objs.size<=a
section
variable{G:Ev}{base B:Heap}{l:List Env}{H H':Hx}{s0 s':Shared}{a C t:Addr}{h':Heap}
theorem OkO.kept{b:Addr}{o:OD}{h:Heap}(x:OkO G h H b o)(k:∀b u,h.get? b=some u->h'.get? b=some u):OkO G h' H b o:=x.stay (λb u e f=>⟨k b u e,f⟩) (λb u _ q=>k b u q) λ_ z=>z
theorem Fly.hok(f:Fly G base l H s0 a C H' s'):HOk G s'.heap H':=by
 obtain⟨B,t,fl,_,k,w,_⟩:=f.ex;refine⟨λb o e=>(k b o e).kept fl.1,λb x e=>?_⟩;obtain⟨n,m | ⟨o,e⟩⟩:=w b x e
 . obtain⟨_,o,e,_⟩:=fl.2.2.1.mem m;exact⟨n,o,e⟩
 . exact⟨n,o,fl.1 b o e⟩
end
section
variable{X:Cx}{pins:List (Addr×Obj)}{vl:List (D×Value)}{σ:Sd}{H H':Hx}{s s':Shared}{a C:Addr}
theorem Fly.inv(f:Fly X.ev X.base X.stack H s a C H' s')(I:Inv X pins vl σ H s):Inv X pins vl σ H' s':=I.call f.os f.un f.hok f.bare nofun
theorem Hx.drop_ow{H:Hx}{l:List Addr}{b y:Addr}(e:(H.drop l).ow b=some y):b ∉ l/\H.ow b=some y:=by
 have e:(if b∈l then none else H.ow b)=some y:=e
 split at e<;>simp_all
theorem Hx.drop_no{H:Hx}{l:List Addr}{b:Addr}(n:b ∉ l):(H.drop l).ow b=H.ow b:=if_neg n
theorem Qz{h:Heap}{H:Hx}{l:List Addr}:Im h H h (H.drop l):=λb u e f=>⟨e,f.1,by show(if _ then none else H.ow b)=none;split<;>first | rfl | exact f.2⟩
theorem Inv.left{h' B:Heap}{t e:Addr}(I:Inv X pins vl σ H s)(hst:X.stack=X.env::X.outer)(hex:X.ex=[])(hn:X.s₀.heap.objs.size<=e)(l:List Addr)(hl:∀b∈l,b=e\/b=X.env.locals)(hL:X.env.locals∈l)
 (fl:Heap.FlyingW B X.outer e (.ref C) (.ref t) h') (up:s.heap.UpToSlots h') (k1:X.base.StaysIn B) (k2:∀b o,H.hd b=some o->OkO X.ev B (H.drop l) b o) (k3:∀b x,H.ow b=some x->b∈l\/b∈HW X.outer\/∃o,B.get? b=some o)
 (k4:∀b o,X.s₀.heap.get? b=some o->X.H₀.fr b\/X.H₀.so b->b ∉ HW X.outer->∃o',B.get? b=some o') (hB:B.StaysIn s.heap) (he:(H.drop l).fr e):Fly X.ev X.base X.outer X.H₀ X.s₀ e C (H.drop l) {s with heap:=h'}:=by
 have nex:∀b:Addr,b ∉ X.ex:=λb=>by rw[hex];simp
 have nl:∀b o,X.s₀.heap.get? b=some o->b ∉ l:=λb o q z=>by have:=As q;have:=I.ok.above;rcases hl b z with rfl | rfl<;>lia
 have keep:∀b o,X.s₀.heap.get? b=some o->X.H₀.fr b\/X.H₀.so b->∀o',s.heap.get? b=some o'->b ∉ HW X.outer->h'.get? b=some o':=λb o q n o' e hb=>by obtain⟨o2,e2⟩:=k4 b o q n hb;cases e.symm.trans (hB b o2 e2);exact fl.1 b _ e2
 refine⟨⟨B,t,fl,k1,k2,λb x z=>?_,k4⟩,I.os,I.bare,⟨λb o q n=>?_,λb o q n hb _=>?_,λb o q n hb _=>?_,λb o q n _=>?_⟩,he,hn⟩
 . obtain⟨n,z⟩:=Hx.drop_ow z;exact⟨(I.hok.ow b x z).1,(k3 b x z).elim (λy=>absurd y n) id⟩
 . obtain⟨e1,n1⟩:=I.base.im b o q n;exact⟨keep b o q (.inl n) o e1 (λz=>by cases n.2.symm.trans (I.ok.frf b z).1.2),(Qz b o e1 n1).2⟩
 . exact keep b o q (.inr n) o (I.base.keep b o q n hb (nex b)) hb
 . obtain⟨sl,e1⟩:=I.base.slot b o q n hb (nex b);obtain⟨_,o2,e2,nf⟩:=I.ok.funs.mem hb;cases q.symm.trans e2;obtain⟨sl2,e3⟩:=up b _ e1 nf;exact⟨sl2,e3⟩
 . have z:=I.base.so b o q n (nex b);exact⟨z.1,(Hx.drop_no (nl b o q)).trans z.2⟩
theorem Fly.leave{Q:Unit->Shared->Prop}{E:Value->Shared->Prop}(I:Inv X pins vl σ H s)(hst:X.stack=X.env::X.outer)(hf:X.env.frame=some X.env.locals)(hex:X.ex=[])(f:Fly X.ev X.base X.stack H s a C H' s')
 (hQ:∀H2 s'',H2.hd=H'.hd->Fly X.ev X.base X.outer X.H₀ X.s₀ a C H2 s''->Q () s''):wpAny (model X.prog X.w) X.A (leaving X.env (.ref a)) Q E s':=by
 obtain⟨B,t,fl,k1,k2,k3,k4⟩:=f.ex;have I':=f.inv I;rw[hst] at fl;have nex:∀b:Addr,b ∉ X.ex:=λb=>by rw[hex];simp
 refine wpAny_leaves_onW (by rw[I.ok.frames,hst]) hf fl λh' fl' up=>hQ (H'.drop [X.env.locals]) _ rfl (I'.left hst hex (At I.sz f.new) [X.env.locals] (λb hb=> .inr (by simpa using hb)) AA fl' up k1 (λb o e=>?_) (λb x e=>?_) (λb o e n hb=>?_) fl.1 ?_)
 . refine(k2 b o e).stay Qz (λ_ _ _ q=>q) λc z=>(Hx.drop_no λm=>?_).trans z;rw[Af.mp m,I'.free.2] at z;cases z;cases e.symm.trans I'.free.1
 . rcases(k3 b x e).2 with z | z
   . rcases Ag.mp (I.stkSub b z) with z | z
     . exact .inl (by simp[z])
     . exact .inr (.inl z)
   . exact .inr (.inr z)
 . have nst:b ∉ HW X.stack:=λhm=>(Ag.mp (I.stkSub b hm)).elim (λz=>by have:=As e;have:=I.ok.above;rw[<-z] at this;lia) hb;rcases n with n | n
   . obtain⟨e1,n1⟩:=I.base.im b o e n;exact k4 b o e1 (.inl n1) nst
   . exact k4 b o (I.base.keep b o e n hb (nex b)) (.inr (I.base.so b o e n (nex b))) nst
 . exact⟨f.free.1,by show(if _ then none else H'.ow a)=none;split<;>first | rfl | exact f.free.2⟩
end
noncomputable abbrev FS:=List D->Hd->DK->G9->Prop
structure Env0(G:Ev)(base:Heap)(A:Ax)(outer:List Env)(s:Shared)(H:Hx):Prop where
 frames:A.frames=some outer
 mod:Mod G.K G.mg base
 bs:∀b o,base.get? b=some o->s.heap.get? b=some o/\H.fr b
 bsz:base.objs.size<=s.heap.objs.size
 funs:s.heap.FunFrames base outer
 frf:∀b∈HW outer,H.so b/\∃o,s.heap.get? b=some o
 hok:HOk G s.heap H
 bare:AllBare s.gens
noncomputable def CE(G:Ev)(outer:List Env)(H:Hx)(s:Shared)(k:DK)(u:Value)(s':Shared):Prop:=∃d H',s'.os=s.os/\AllBare s'.gens/\Un (HW outer) [] H H' s.heap s'.heap/\HOk G s'.heap H'/\Rv G s'.heap H' d u/\k d H'.hd
noncomputable def CX(G:Ev)(base:Heap)(outer:List Env)(H:Hx)(s:Shared)(e:G9)(v:Value)(s':Shared):Prop:=∃a C c H',v= .ref a/\G.mg c=some (.ref C)/\Fly G base outer H s a C H' s'/\e c H'.hd
noncomputable def CR(G:Ev)(base:Heap)(outer:List Env)(H:Hx)(s:Shared)(k:DK)(e:G9)(r:Result)(s':Shared):Prop:=match r with
 | .ok (.ret u)=>CE G outer H s k u s'
 | .ok _=>False
 | .error v=>CX G base outer H s e v s'
structure FnOk(G:Ev)(base:Heap)(k:Nat)(f:Addr)(fd:BL)(ps:List Str)(S:FS):Prop where
 len:∀ds h kk e,S ds h kk e->ds.length=ps.length
 run:∀(A:Ax)(outer:List Env)(s:Shared)(H:Hx)(args:Args)(us:List Value)(ds:List D)(kk:DK)(e:G9),Room k A->Env0 G base A outer s H->BindsTo s fd args (ps.zip us)->Rvs G s.heap H ds us->S ds H.hd kk e->
  codeAny (model G.P G.w) A (.call (.ref f) args) (CR G base outer H s kk e) s
noncomputable def Binds(K:AT)(fd:BL)(ps:List Str)(ds:List Value):Prop:=∀(s:Shared)(us:List Value),K.In s.heap->(us++ds).length=ps.length->BindsTo s fd ⟨us,[]⟩ (ps.zip (us++ds))
theorem Binds.all{K:AT}{fd:BL}{ps:List Str}(h:∀us:List Value,us.length=ps.length->bindArgs fd ⟨us,[]⟩=pure (ps.zip us)):Binds K fd ps []:=λs us _ hl=>by rw[A9] at hl ⊢;exact .of_eq (h us hl)
theorem Env0.make{G:Ev}{base:Heap}{A:Ax}{outer:List Env}{s:Shared}{H:Hx}(e:Env0 G base A outer s H)(C:Addr)(us:List Value):Env0 G base (Around.mk A C us) outer s H:=
 ⟨by first | exact e.frames | (simpa [EC,Code.envs,Code.isFrame,pushEnvs] using e.frames),e.mod,e.bs,e.bsz,e.funs,e.frf,e.hok,e.bare⟩
noncomputable def J3(X:Cx)(xr:XR):Prop:=∀{pins vl σ H s a C c H' s'},Inv X pins vl σ H s->Fly X.ev X.base X.stack H s a C H' s'->X.mg c=some (.ref C)->xr σ c H'.hd->X.xe (.ref a) s'
theorem JF{X:Cx}:J3 X GV:=λ_ _ _ h=>h.elim
noncomputable abbrev Lg(e:G9):XR:=λ_ c h=>e c h
noncomputable def FV(S:FS)(T:G6):TD:=λσ hd k e=>T σ hd (λds h1=>S ds h1 k e) e
theorem Fly.less{G:Ev}{base:Heap}{l:List Env}{H H':Hx}{s0 s':Shared}{a C:Addr}{hd:Hd}(f:Fly G base l H s0 a C H' s')(q:Le hd H'.hd):Fly G base l H s0 a C (H'.to hd) s':=by obtain⟨B,t,fl,k1,k2,k3,k4⟩:=f.ex;have im:∀{h:Heap},Im h H' h (H'.to hd):=λb u e f=>⟨e,q.none f.1,f.2⟩;exact⟨⟨B,t,fl,k1,λb o e=>(k2 b o (q b o e)).stay im (λ_ _ _ z=>z) λ_ z=>z,λb x e=>⟨q.none (k3 b x e).1,(k3 b x e).2⟩,k4⟩,f.os,f.bare,⟨f.un.im.trans im,f.un.keep,f.un.slot,λb o e n hx=>let z:=f.un.so b o e n hx;⟨q.none z.1,z.2⟩⟩,⟨q.none f.free.1,f.free.2⟩,f.new⟩
section
variable{X:Cx}{xr:XR}{k:Nat}{x:Str}{ps:List Str}{S:FS}{e:Expr}{es:List Expr}{T:G6}{p pos:Pos}{pins:List (Addr×Obj)}{vl:List (D×Value)}{σ:Sd}{H:Hx}{s:Shared}
theorem Inv.env0(I:Inv X pins vl σ H s):Env0 X.ev X.base X.A X.stack s H:=⟨I.ok.frames,I.ok.mod,I.bs,At I.ok.bsz I.sz,I.stack,λb hb=>⟨I.stkSo b hb,(I.hok.ow b b (I.stkSo b hb).2).2⟩,I.hok,I.bare⟩
theorem Inv.after{kk:DK}{u:Value}{s':Shared}(I:Inv X pins vl σ H s)(h:CE X.ev X.stack H s kk u s'):EP X pins vl σ kk u s':=
 let⟨_,_,os,bare,un,hok,r,q⟩:=h;(I.call os un hok bare nofun).ret r q
theorem Ms{f:Addr}{fd:BL}{kk:DK}{ee:G9}{us:List Value}{ds:List D}{ws:List D}{dv:List Value}(F:FnOk X.ev X.base k f fd ps S)(hb:Binds X.K fd ps dv)(hr:Room k X.A)(th:J3 X xr)
 (I:Inv X pins vl σ H s) (r:Rvs X.ev s.heap H ds us) (rd:Rvs X.ev s.heap H ws dv) (q:S (ds++ws) H.hd kk ee) (hx:∀c h,ee c h->xr σ c h):X.W (call (.ref f) us) (EP X pins vl σ kk) s:=by
 have r2:=r.app rd;have hl:(us++dv).length=ps.length:=by rw[<-r2.length];exact F.len _ _ _ _ q
 refine wpAny_call (BP (F.run X.A X.stack s H ⟨us,[]⟩ _ _ kk ee hr I.env0 (hb s us I.kIn hl) r2 q) λr s' hq=>?_);cases r with
 | error e=>obtain⟨a,C,c,H',rfl,m,fl,q'⟩:=hq;exact th I fl m (hx _ _ q')
 | ok fl=>
  cases fl with
  | ret u=>exact I.after hq
  | _=>exact E7 hq
theorem PV{f:Addr}{fd:BL}{kk:DK}{ee:G9}{us:List Value}{ds:List D}(F:FnOk X.ev X.base k f fd ps S)(hb:Binds X.K fd ps [])(hr:Room k X.A)(th:J3 X xr)
 (I:Inv X pins vl σ H s) (r:Rvs X.ev s.heap H ds us) (q:S ds H.hd kk ee) (hx:∀c h,ee c h->xr σ c h):X.W (call (.ref f) us) (EP X pins vl σ kk) s:=Ms (ws:=[]) F hb hr th I r .nil (by rw[A9];exact q) hx
structure FnD(G:Ev)(base:Heap)(k:Nat)(x:Str)(ps:List Str)(S:FS)(f:Addr)(fd:BL):Prop where
 F:FnOk G base k f fd ps S
 b:Binds G.K fd ps []
 kp:CP G.K (.ref f)=true
 m:G.mg x=some (.ref f)
theorem EP.out{ds:List D}{us:List Value}{kk:DK}{u:Value}{s':Shared}(h:EP X pins (ds.zip us++vl) σ kk u s'):EP X pins vl σ kk u s':=let⟨d,H',I,q⟩:=h;⟨d,H',I.sub λp hp=>(Ag.mp hp).elim (λz=>z ▸ AA) λz=>Aw _ (Am _ z),q⟩
theorem Nf(F:∃f fd,FnD X.ev X.base k x ps S f fd)(hr:Room k X.A)(th:J3 X xr)(hg:Gl X x)(ha:DA X xr (e::es) T)(hdb:(x==("__debug__":Str))=false:=by decide)
 (he:Ai (e::es) X.env=(false,eval e X.env)::Ai es X.env:=by rfl) (hpl:(backTo pos (Ai es X.env)).any (·.1)=false:=by rfl):DE X xr (.Call (.Name x p) (e::es) [] pos) (FV S T):= .mk λI h hx=>
 let⟨f,fd,F,h2,h3,h4⟩:=F
 Bq (MD I hg h4 (PySem.W.callWith_K (h₀:=X.base) I.ok.mod.kin h3 (FO (ha pos I h hx) λus s1 ⟨ds,H1,I1,l,q⟩=>⟨I1.kIn,FO (PV F h2 hr th I1 (I1.vals l) q hx) λ_ _ z=>z.out⟩) he hpl) hdb)
end
structure FnScope(N P:List Str)(sc:Scope):Prop where
 kind:sc.kind= .function
 co:sc.isCoroutine=false
 gen:sc.isGenerator=false
 nd:N.Nodup
 pre:N.take P.length=P
 par:∀x∈P,sc.names.lookup x=some .local\/sc.names.lookup x=some .cell
 nofree:∀y∈sc.names,y.2≠ .free
theorem Rm{kd:Str->Option NameKind}{x:Str}:∀{binds:List (Str×Value)}{m:Str->Option Value},(∀v,(x,v) ∉ binds)->bindL kd binds m x=m x/\bindC kd binds m x=m x
 | [],_,_=>⟨rfl,rfl⟩
 | (n,v)::r,m,h=>by
  have ne:x≠n:=by rintro rfl;exact h v AA
  have ih:=λm'=>Rm (kd:=kd) (m:=m') λw hw=>h w (Aw _ hw);unfold bindL bindC;rw[(ih _).1,(ih _).2];constructor<;>split<;>simp[ne]
theorem Rk{kd:Str->Option NameKind}{x:Str}{v:Value}:∀{P:List Str}{vs:List Value}{i:Nat}{m:Str->Option Value},P.Nodup->P[i]?=some x->vs[i]?=some v->
 (kd x=some .local->bindL kd (P.zip vs) m x=some v)/\(kd x≠some .local->bindC kd (P.zip vs) m x=some v)
 | [],_,_,_,_,h,_=>by simp at h
 | _::_,[],_,_,_,_,h=>by simp at h
 | p::P,w::vs,0,m,nd,h1,h2=>by
  simp at h1 h2;subst h1;subst h2;have o:=λm'=>Rm (kd:=kd) (x:=p) (binds:=P.zip vs) (m:=m') λv hv=>(AL.mp nd).1 (List.of_mem_zip hv).1;constructor<;>intro hk
  . show bindL kd ((p,w)::P.zip vs) m p=_;unfold bindL;rw[(o _).1,if_pos hk];simp
  . show bindC kd ((p,w)::P.zip vs) m p=_;unfold bindC;rw[(o _).2,if_neg hk];simp
 | p::P,w::vs,i+1,m,nd,h1,h2=>by
  have ih:=λm'=>Rk (kd:=kd) (i:=i) (m:=m') (AL.mp nd).2 (by simpa using h1) (by simpa using h2);constructor<;>intro hk
  . show bindL kd ((p,w)::P.zip vs) m x=_;unfold bindL;exact(ih _).1 hk
  . show bindC kd ((p,w)::P.zip vs) m x=_;unfold bindC;exact(ih _).2 hk
noncomputable def IX(s:Stmt):Arguments:=match s with
 | .FunctionDef _ a _ _ _ _ _ _ _ _=>a
 | _=>{posonlyargs:=[],args:=[],vararg:=none,kwonlyargs:=[],kw_defaults:=[],kwarg:=none,defaults:=[]}
noncomputable def Ib(s:Stmt):List Stmt:=match s with
 | .FunctionDef _ _ b _ _ _ _ _ _ _=>b
 | _=>[]
noncomputable def GH(s:Stmt):Scope:=match s with
 | .FunctionDef _ _ _ _ _ _ sc _ _ _=>sc
 | _=>{kind:= .function,names:=[],isGenerator:=false,isCoroutine:=false}
noncomputable def Ju(N:List Str)(ds:List D):Sd:=ds.map some++List.replicate (N.length - ds.length) none
theorem ZF{N:List Str}{ds:List D}{i:Nat}{d:D}(h:(Ju N ds)[i]?=some (some d)):ds[i]?=some d:=by
 unfold Ju at h;by_cases hi:i<ds.length
 . rw[E8 (by simpa using hi),AB] at h;cases e:ds[i]?<;>simp_all
 . rw[Ex (by simpa using hi),List.getElem?_replicate] at h
   split at h<;>cases h
noncomputable abbrev HM(G:Ev)(base:Heap)(N:List Str)(qual:Str)(st:Stmt)(f:Addr)(cdv:Value)(A:Ax)(outer:List Env)(s:Shared)(H:Hx)(e:G9):Cx where
 prog:=G.P
 w:=G.w
 K:=G.K
 mg:=G.mg
 base:=base
 A:=A.deeper (envOfC qual (GH st) s.heap.objs.size f cdv)
 N:=N
 s₀:=s
 H₀:=H
 env:=envOfC qual (GH st) s.heap.objs.size f cdv
 outer:=outer
 stack:=envOfC qual (GH st) s.heap.objs.size f cdv::outer
 ex:=[]
 calm:=true
 fn:=λ_=>true
 pn:=[]
 xe:=λv s'=>wpAny (model G.P G.w) (A.deeper (envOfC qual (GH st) s.heap.objs.size f cdv)) (leaving (envOfC qual (GH st) s.heap.objs.size f cdv) v) (λ_ s''=>CX G base outer H s e v s'') (λe' s''=>CX G base outer H s e e' s'') s'
noncomputable def Ja(k:DK):DK:=λd h=>∃h',Le h' h/\k d h'
noncomputable def Kn(e:G9):G9:=λc h=>∃h',Le h' h/\e c h'
theorem Gb{k:DK}{d:D}{h:Hd}(q:k d h):Ja k d h:=⟨h,.refl h,q⟩
noncomputable def HR(k:DK)(e:G9):DEnds:={nx:=λ_ h=>Ja k .non h,rt:=Ja k,xc:=λ_ c h=>Kn e c h}
section
variable{G:Ev}{base:Heap}{N ps:List Str}{qual:Str}{st:Stmt}{f:Addr}{cdv:Value}{A:Ax}{outer:List Env}{s s1:Shared}{H:Hx}{e:G9}{us:List Value}{ds:List D}
theorem JE:J3 (HM G base N qual st f cdv A outer s H e) (Lg (Kn e)):=λ{_ _ _ _ _ a C c H' s'}I fl m q=>by obtain⟨h',l,q⟩:=q;refine(fl.less l).leave I rfl rfl rfl λH2 s'' eh f'=>⟨a,C,c,H2,rfl,m,f',?_⟩;rw[eh];exact q
theorem HOk.born{h h':Heap}(l:List Addr)(I:HOk G h H)(k:∀b u,h.get? b=some u->h'.get? b=some u)(hl:∀b∈l,h.objs.size<=b/\∃o,h'.get? b=some o):HOk G h' (H.owns l):=by
 have nl:∀{b u},h.get? b=some u->b ∉ l:=λe z=>by have:=As e;have:=(hl _ z).1;lia
 have im:Im h H h' (H.owns l):=λb u e q=>⟨k b u e,q.1,(if_neg (nl e)).trans q.2⟩;refine⟨λa o e=>(I.at' a o e).stay im (λc u _ q=>k c u q) λb z=>(if_neg (nl (I.ow _ _ z).2.choose_spec)).trans z,λb y e=>?_⟩;have e:(if b∈l then some b else H.ow b)=some y:=e
 split at e
 . rename_i m;exact⟨(I.fresh (hl b m).1).1,(hl b m).2⟩
 . obtain⟨z,o,q⟩:=I.ow b y e;exact⟨z,o,k b o q⟩
theorem QQ{sc:Scope}{n:Nat}{x:Str}(h:sc.names.lookup x=some .cell):∃c,(Bm n sc.names []).lookup x=some c:=C7.mp (Ck sc.names n [] (.inl h))
theorem Zt(S:FnScope N ps (GH st))(hd:A.handled=none)(e0:Env0 G base A outer s H)(hl:ds.length=ps.length)(r:Rvs G s.heap H ds us)
 (x:InCallC s s.heap.objs.size (bindL (envOfC qual (GH st) s.heap.objs.size f cdv).kindOf (ps.zip us) λ_=>none) (Bm (s.heap.objs.size+1) (GH st).names []) (bindC (envOfC qual (GH st) s.heap.objs.size f cdv).kindOf (ps.zip us) λ_=>none) s1):
 ∃H1,H1.hd=H.hd/\Inv (HM G base N qual st f cdv A outer s H e) [] [] (Ju N ds) H1 s1:=by
 have hpl:ps.length<=N.length:=by have:=congrArg List.length S.pre;rw[Cj] at this;lia
 obtain⟨h1,tk,rfl,hk⟩:=x.done;obtain⟨l,m0,mc,hll⟩:∃l:List Addr,s.heap.objs.size∈l/\(∀y c,(Bm (s.heap.objs.size+1) (GH st).names []).lookup y=some c->c∈l)/\∀b∈l,s.heap.objs.size<=b/\∃o,h1.get? b=some o:=by
  refine⟨s.heap.objs.size::(Bm (s.heap.objs.size+1) (GH st).names []).filterMap λp=>(Bm (s.heap.objs.size+1) (GH st).names []).lookup p.1,AA,λy c h=>Aw _ (By.mpr ⟨(y,c),Ch h,h⟩),λb hb=>?_⟩;rcases Ag.mp hb with e | hb
  . obtain⟨o,_,_,q,_⟩:=x.toInCall.ns;exact⟨DL e.symm,o,e ▸ q⟩
  . obtain⟨p,hp,q⟩:=By.mp hb;obtain⟨o,e,_⟩:=x.cell p.1 b q;exact⟨BI (x.above p.1 b (Ch q)),o,e⟩
 have sol:∀b∈l,(H.owns l).so b:=λb hb=>⟨(e0.hok.fresh (hll b hb).1).1,if_pos hb⟩;have nl:∀{b u},s.heap.get? b=some u->b ∉ l:=λe z=>by have:=As e;have:=(hll _ z).1;lia
 have im:Im s.heap H h1 (H.owns l):=λb u e q=>⟨hk b u e,q.1,(if_neg (nl e)).trans q.2⟩;have ok:(HM G base N qual st f cdv A outer s H e).Ok:=by
  refine⟨e0.mod,S.kind,rfl,rfl,Al _,λy z c h1 h2=>name_of_addr x.apart (Ch h1) (Ch h2),λy hy=>?_,λy c _ h=>BI (x.above y c (Ch h)),λ_=>hd,Around.frames_deeper e0.frames,.inr ⟨rfl,rfl⟩,λb z=>?_,e0.bs,e0.bsz,e0.funs,e0.frf⟩
  . rcases(show(GH st).names.lookup y=some .cell\/(GH st).names.lookup y=some .free from hy) with hy | hy
    . exact QQ hy
    . exact absurd rfl (S.nofree _ (Ch hy))
  . exact absurd (show b∈([]:List Addr) from z) (by simp)
 refine⟨H.owns l,rfl,ok,rfl,e0.bare,?_,⟨_,x.toInCall.ns,λi y v h1 h2 h3=>?_⟩,λp hp=>?_,λy c h=>⟨⟨_,x.cell y c h⟩,sol c (mc y c h)⟩,sol _ m0,λp hp=>?_,e0.hok.born l hk hll,?_⟩
 . exact⟨im,λb o e _ _ _=>hk b o e,λb o e _ _ _=>⟨o.slots,hk b o e⟩,λb o e n _=>⟨n.1,(if_neg (nl e)).trans n.2⟩⟩
 . have ha:=ZF h2;have hi:i<ds.length:=(Ar.mp ha).1;obtain⟨u,hu,rv⟩:=r.get ha;have hp:ps[i]?=some y:=by rw[<-S.pre,List.getElem?_take_of_lt (by lia)];exact h1
   have ndP:ps.Nodup:=by rw[<-S.pre];exact S.nd.sublist (List.take_sublist _ _)
   have bg:=λkd m=>Rk (kd:=kd) (m:=m) ndP hp hu;refine⟨u,rv.im im,?_⟩;rcases S.par y (AD hp) with k | k
   . exact .inl ⟨k,(bg _ _).1 k⟩
   . obtain⟨c,e⟩:=QQ (n:=s.heap.objs.size+1) k;refine .inr ⟨.inl k,c,e,?_⟩;have q:=x.cell y c e;rw[(bg _ _).2 (by show(GH st).names.lookup y≠_;rw[k];decide)] at q;exact q
 . cases hp
 . exact absurd (show p∈([]:List (Addr×Obj)) from hp) (by simp)
 . unfold Ju;show _=N.length;rw[Ah,Ac,List.length_replicate]
   lia
theorem TJ{k:Nat}{name:Str}{dV kV doc pm ct oc:Value}{an od:Option Addr}{osl:Array (Option Value)}{S:FS}{T:GC}(lk:G.K.lookup f=some ⟨oc,od,.func (BQ name qual (IX st) (Ib st) (GH st) dV kV doc pm an cdv ct),osl⟩)(hcd:Fp G.K cdv qual=true)
 (sc:FnScope N ps (GH st)) (len:∀ds h kk e,S ds h kk e->ds.length=ps.length) (hb:∀A outer s H e,Room k (HM G base N qual st f cdv A outer s H e).A->DSs (HM G base N qual st f cdv A outer s H e) (Lg (Kn e)) (Ib st) T)
 (rd:∀ds h kk e,S ds h kk e->T (HR kk e) (Ju N ds) h):FnOk G base (k+1) f (BQ name qual (IX st) (Ib st) (GH st) dV kV doc pm an cdv ct) ps S:=by
 refine⟨len,λA outer s H args us ds kk e hr e0 hbd r hsp=>?_⟩;have KX:G.K.In s.heap:=e0.mod.kin.keeps λb o e=>(e0.bs b o e).1;have lim:s.heap.NoLimit:=e0.mod.nolimit.keeps λb o e=>(e0.bs b o e).1;have hkind:∀y∈ps.zip us,(GH st).names.lookup y.1=some .local\/((GH st).names.lookup y.1=some .cell/\((Bm (s.heap.objs.size+1) (GH st).names []).lookup y.1).isSome=true):=λ⟨n,v⟩ hy=>by
  rcases sc.par n (List.of_mem_zip hy).1 with q | q
  . exact .inl q
  . exact .inr ⟨q,Ck _ _ _ (.inl q)⟩
 refine codeAny_call_function (BJ (by have:=hr.dp;lia) hr.dp) (KX _ _ lk) rfl sc.co sc.gen rfl (PySem.W.codeRec_of KX hcd) (hbd _ _ _ _ ?_);refine wpAny_newFunctionEnv_cells sc.kind hkind λenv he s1 x=>?_;subst he;refine⟨lim.keeps x.toInCall.keep,codeAny_func ?_⟩;obtain⟨H1,eh,I⟩:=Zt (e:=e) sc hr.hd e0 (len _ _ _ _ hsp) r x;refine AO (hb A outer s H e (hr.deeper _) I (by rw[eh];exact rd ds _ kk e hsp) λ_ _ _ q=>q) (λfl s' hs=>?_) λe s' hs=>hs;have fin:∀{vl σ' H' d u},Inv (HM G base N qual st f cdv A outer s H e) [] vl σ' H' s'->Rv G s'.heap H' d u->Ja kk d H'.hd->CE G outer H s kk u s':=λJ rv ⟨h',l,q⟩=> have J':=(J.cons rv).less l;⟨_,_,J'.os,J'.bare,J'.base,J'.hok,J'.hv,q⟩;cases fl with
 | ret u=>obtain⟨d,σ',H',J,q⟩:=hs;exact fin J.tl J.hv q
 | next=>obtain⟨σ',H',J,q⟩:=hs;exact fin J .non q
 | brk=>obtain⟨_,_,_,q⟩:=hs;exact E7 q
 | cont=>obtain⟨_,_,_,q⟩:=hs;exact E7 q
end
structure ObjM(h:Heap)(x dx C:Addr)(mA:Str->Option Value):Prop where
 obj:h.get? x=some (Bv C dx)
 ns:h.Ns1 dx mA
 ne:dx≠x
theorem ObjM.look{h:Heap}{x dx C:Addr}{mA:Str->Option Value}(I:ObjM h x dx C mA):∃od,PySem.W.InstAt h x (Bv C dx) C (some od)/\∀name,Fq name od=some (mA name):=by
 obtain⟨o,es,ep,ho,hd,hk,_,hm⟩:=I.ns;refine⟨o,⟨I.obj,rfl,rfl,ho⟩,λname=>?_⟩;have e:=hm name;unfold nsFind findBy at e;rw[<-Array.find?_toList] at e;unfold Fq;rw[hd];dsimp only
 split
 . rename_i y q;rw[q] at e;exact congrArg some e
 . rename_i q;rw[q] at e;have a:¬es.toList.any (·.refKey)=true:=by
    rw[ED,List.any_eq_false];intro y hy;obtain⟨z,t,hkey⟩:=hk y (Cw.mp hy);simp[DictEntry.refKey,hkey]
   rw[if_neg a];exact congrArg some e
structure Cls(K:AT)(C:Addr):Prop where
 pg:PySem.W.plainGet K C Str.empty=true
 hd:PySem.W.hasDictIn K C=true
 po:PySem.W.plainOver K C=true
 sa:BX K (.ref C) "__setattr__"=some (some (.builtin "object.__setattr__"))
structure Meth(K:AT)(C:Addr)(m:Str)(f:Addr):Prop where
 at_:BX K (.ref C) m=some (some (.ref f))
 fn:PySem.W.isFn K (.ref f)=true
 kp:CP K (.ref f)=true
structure Mk(K:AT)(C f:Addr):Prop where
 makes:PySem.W.makesIn K C=true
 init:BX K (.ref C) "__init__"=some (some (.ref f))
 fn:PySem.W.isFn K (.ref f)=true
 kp:CP K (.ref C)=true
structure ClsD(K:AT)(mg:Str->Option Value)(C:Str)(Ca:Addr)(fs:List Str):Prop where
 c:Cls K Ca
 n:∀f∈fs,BX K (.ref Ca) f=some none
 m:mg C=some (.ref Ca)
noncomputable def IV(f:Str)(v:D):List (Str×D)->List (Str×D)
 | []=>[(f,v)]
 | (g,x)::r=>if g=f then(g,v)::r else(g,x)::IV f v r
theorem Ot(f g:Str)(v:D):∀fs:List (Str×D),(IV f v fs).lookup g=if g=f then some v else fs.lookup g
 | []=>by
  by_cases h:g=f
  . subst h;simp[IV]
  . simp[IV,h,List.lookup,beq_eq_false_iff_ne.mpr h]
 | (k,x)::r=>by
  have ih:=Ot f g v r;unfold IV;by_cases hk:k=f
  . subst hk;rw[if_pos rfl];by_cases h:g=k
    . simp[List.lookup,h]
    . simp[List.lookup,beq_eq_false_iff_ne.mpr h,h]
  . rw[if_neg hk,Bi,Bi,ih];by_cases h:g=k
    . subst h;simp[hk]
    . rw[beq_eq_false_iff_ne.mpr h]
theorem Rt(f:Str)(v:D):∀fs:List (Str×D),(IV f v fs).length<=fs.length+1
 | []=>by simp[IV]
 | (k,x)::r=>by
  have ih:=Rt f v r;unfold IV
  split<;>simp only[Ao]<;>lia
theorem lookup_keys{f:Str}:∀{fs:List (Str×D)},f∈fs.map (·.1)↔fs.lookup f≠none
 | []=>by simp
 | (k,x)::r=>by
  rw[Aj,Ag,lookup_keys (fs:=r),Bi];by_cases h:f=k
  . subst h;simp
  . simp[h,beq_eq_false_iff_ne.mpr h]
noncomputable def Kb(C:Str)(x:D)(hd:Hd)(k:Addr->List (Str×D)->Prop):Prop:=match x with
 | .ref a=>(match hd a with | some (.ins C' fs)=>C'=C/\k a fs | _=>False)
 | _=>False
theorem Lw{C:Str}{x:D}{hd:Hd}{k:Addr->List (Str×D)->Prop}(h:Kb C x hd k):∃a fs,x= .ref a/\hd a=some (.ins C fs)/\k a fs:=by
 cases x with
 | ref a=>
  unfold Kb at h;dsimp only at h
  split at h
  . rename_i C' fs e;obtain⟨rfl,h⟩:=h;exact⟨a,fs,rfl,e,h⟩
  . exact h.elim
 | _=>exact h.elim
noncomputable def Hl(C f:Str)(Ta:TD):TD:=λσ hd k e=>Ta σ hd (λx h1=>Kb C x h1 λ_ fs=>(match fs.lookup f with | some d=>k d h1 | none=>False)) e
noncomputable def Uo(C f:Str)(Ta Tv:TD):GC:=λE σ hd=>Tv σ hd (λy h1=>Ta σ h1 (λx h2=>Kb C x h2 λa fs=>fs.length<1000/\E.nx σ (put h2 a (.ins C (IV f y fs)))) (E.xc σ)) (E.xc σ)
noncomputable def KO(C m:Str)(S:FS)(To:TD)(T:G6):TD:=λσ hd k e=>To σ hd (λx h1=>Kb C x h1 (λ_ fs=>(match fs.lookup m with | none=>True | some _=>False))/\T σ h1 (λds h2=>S (x::ds) h2 k e) e) e
noncomputable def My(C m:Str)(dd:List D)(S:FS)(To:TD)(T:G6):TD:=KO C m (λds=>S (ds++dd)) To T
theorem Zw{C m:Str}{S:FS}{To:TD}{T:G6}:My C m [] S To T=KO C m S To T:=by unfold My;simp only[A9]
noncomputable def OR(C:Str)(S:FS)(T:G6):TD:=λσ hd k e=>T σ hd (λds h1=>∀x,h1 x=none->S (.ref x::ds) (put h1 x (.ins C [])) (λv h2=>v= .non/\k (.ref x) h2) e) e
inductive Cst:List D->List Value->Prop
 | nil:Cst [] []
 | non {a b}:Cst a b->Cst (.non::a) (.none::b)
 | bl {a b} (c:Bool):Cst a b->Cst (.bl c::a) (.bool c::b)
 | int {a b} (i:Int) (t:Tok):Cst a b->Cst (.int i::a) (.int i t::b)
theorem Cst.rvs{G:Ev}{h:Heap}{H:Hx}:∀{a:List D}{b:List Value},Cst a b->Rvs G h H a b
 | _,_,.nil=> .nil
 | _,_,.non x=> .cons .non x.rvs
 | _,_,.bl c x=> .cons (.bl c) x.rvs
 | _,_,.int i t x=> .cons (.int i t) x.rvs
theorem Zq{G:Ev}{h:Heap}{H:Hx}{d:D}{u:Value}(r:Rv G h H d u):PySem.W.handedIn u=true:=by cases r<;>first | rfl | assumption
structure MtD(G:Ev)(base:Heap)(k:Nat)(Ca:Addr)(m:Str)(ps:List Str)(S:FS)(dd:List D)(f:Addr)(fd:BL)(dv:List Value):Prop where
 F:FnOk G base k f fd ps S
 b:Binds G.K fd ps dv
 m:Meth G.K Ca m f
 c:Cst dd dv
structure MkD(G:Ev)(base:Heap)(k:Nat)(Ca:Addr)(ps:List Str)(S:FS)(f:Addr)(fd:BL):Prop where
 F:FnOk G base k f fd ps S
 b:Binds G.K fd ps []
 m:Mk G.K Ca f
section
variable{X:Cx}{xr:XR}{C f m x:Str}{Ca:Addr}{fl ps:List Str}{k:Nat}{S:FS}{o e value:Expr}{es:List Expr}{To Tv:TD}{T:G6}{p pos pos' apos:Pos}{dd:List D}{pins:List (Addr×Obj)}{vl:List (D×Value)}{σ:Sd}{H:Hx}{s:Shared}
theorem Inv.obj{a:Addr}{fs:List (Str×D)}(I:Inv X pins vl σ H s)(hm:X.mg C=some (.ref Ca))(e:H.hd a=some (.ins C fs)):∃dx mA,ObjM s.heap a dx Ca mA/\H.ow dx=some a/\PySem.Within mA (fs.map (·.1))/\(∀f,match fs.lookup f,mA f with | some d,some u=>Rv X.ev s.heap H d u | none,none=>True | _,_=>False)/\fs.length<=1000:=by obtain⟨l,Ca',dx,mA,m,w,eo,n,wi,r⟩:=I.hok.at' a _ e;cases hm.symm.trans m;exact⟨dx,mA,⟨eo,n,λz=>by have:=(I.hok.ow dx a w).1;rw[z,e] at this;cases this⟩,w,wi,r,l⟩
theorem Vo(c:ClsD X.K X.mg C Ca fl)(hf:f∈fl)(he:DE X xr e To)(hb:attributeBase e f X.env (eval e X.env)=eval e X.env:=by rfl):DE X xr (.Attribute e f pos) (Hl C f To):= .mk λI h hx=>
 Attribute_any_ (FO (he I h hx) λu s1 ⟨x,H1,I1,q⟩=>by
  obtain⟨a,fs,rfl,ea,q⟩:=Lw q;cases I1.hv.r;obtain⟨dx,mA,O,w,wi,r,l⟩:=I1.obj c.m ea;have r:=r f;cases e1:fs.lookup f with
  | none=>simp only[e1] at q
  | some d=>
   cases e2:mA f with
   | none=>simp only[e1,e2] at r
   | some v=> simp only[e1,e2] at q r;obtain⟨od,J,hl⟩:=O.look;refine PySem.W.get_value I1.kIn J (Ed c.c.pg).1 (PySem.W.findObj_own c.c.hd (c.n f hf) rfl (by rw[hl,e2])) (Zq r) ((I1.tl.tok _).ret r q)) (by rw[arm_eval_Attribute,hb])
theorem UV(c:ClsD X.K X.mg C Ca fl)(hf:f∈fl)(ho:DE X xr o To)(hv:DE X xr value Tv)(hs:swapsWith value (some (.Attribute o f pos')) pos.line X.env=pure false:=by rfl):DS X xr (.Assign [.Attribute o f pos'] value pos) (Uo C f To Tv):= .mk λ{pins vl s σ H E}I h hx=>
 plainObj_wpAny_Assign_Attribute (FO (hv I h (hx _)) λu s1 ⟨y,H1,I1,q⟩=>FO (ho I1 q (hx _)) λov s2 ⟨x,H2,I2,q⟩=>by
  obtain⟨a,fs,rfl,ea,l,q⟩:=Lw q;cases I2.hv.r;have I2:=I2.tl;obtain⟨dx,mA,O,w,wi,r,_⟩:=I2.obj c.m ea;obtain⟨od,J,hl⟩:=O.look;have ht:PySem.W.takerIn X.K Ca f=some none:=by unfold PySem.W.takerIn;rw[c.n f hf];rfl
  refine PySem.W.set_plain I2.kIn J c.c.sa (PySem.W.osa_open (s:={s2 with toks:=s2.toks+1}) (r:=none) I2.kIn J c.c.po ht λb=>?_)
  obtain⟨cd,hc,hd'⟩:=PySem.W.any_some c.c.hd;have hx:s2.heap.get? a=some ⟨.ref Ca,some dx,.plain,#[]⟩:=O.obj;refine Aa (Ab (Aa (Aa (wpAny_loadPart hx (Aa (PySem.W.Looks.here (s:={s2 with toks:=s2.toks+1}) (PySem.W.looks_clsIn I2.kIn hc) ?_))))));rw[hd'];refine Ab (a:=some dx) (Aa (Ab (Aa ?_)));refine wpAny_nsSet1 (s:={s2 with toks:=s2.toks+1}) O.ns λh' hn2 sb=>?_;obtain⟨oD,esD,epD,hoD,hdD,hcD⟩:=hn2.count (PySem.Within.cons f u wi);refine Aa (wpAny_lookBehind hoD (by rw[hdD];exact pastItsLine_dict (At hcD (by rw[Ao,Ac,sizeLine_eq];lia))) (Ab ?_));have im:Im s2.heap H2 h' (H2.to (put H2.hd a (.ins C (IV f y fs)))):=λb u q g=>⟨(sb.2 b (λz=>by have:=g.2;rw[z,w] at this;cases this)).trans q,(FR λz=>by have:=g.1;rw[z,ea] at this;cases this).trans g.1,g.2⟩;refine⟨_,_,(I2.write (o:= .ins C (IV f y fs)) (t':=s2.toks+2) ⟨_,ea⟩ (.inr w) sb (let⟨o,_,_,e',_⟩:=hn2;⟨o,e'⟩) ⟨At (Rt f y fs) l,Ca,dx,_,c.m,w,(sb.2 _ (Be O.ne)).trans O.obj,hn2,λg hg=>?_,λg=>?_⟩).tl,q⟩
  . refine lookup_keys.mpr ?_;rw[Ot];by_cases z:g=f
    . simp[z]
    . rw[if_neg z];simp only[if_neg z] at hg;exact lookup_keys.mp (wi g hg)
  . rw[Ot];by_cases z:g=f
    . simp only[if_pos z];exact I2.hv.im im
    . simp only[if_neg z];have:=r g
      revert this
      cases fs.lookup g<;>cases mA g<;>first | exact id | exact Rv.im im) hs
theorem Qm(c:ClsD X.K X.mg C Ca fl){a:Addr}{fs:List (Str×D)}{g:Addr}{pl:Sem Bool}{Q:Value×List Value->Shared->Prop}(I:Inv X pins vl σ H s)(hm:Meth X.K Ca m g)(ea:H.hd a=some (.ins C fs))(l:match fs.lookup m with | none=>True | some _=>False)(h:Q (.ref g,[.ref a]) s):
 X.W (getMethod (.ref a) m pl) Q s:=by
 obtain⟨dx,mA,O,w,wi,r,_⟩:=I.obj c.m ea;have r:=r m;obtain⟨od,J,hl⟩:=O.look;refine PySem.W.method_fn I.kIn J (Ed c.c.pg).1 (Ed c.c.pg).2 hm.at_ (beq_iff_eq.mp hm.fn) ?_ h;show(Fq m od).map (·.isSome)=some false;rw[hl];cases e1:fs.lookup m with
 | some _=>simp only[e1] at l
 | none=>cases e2:mA m<;>simp_all
theorem EP.out1{p:D×Value}{ds:List D}{us:List Value}{kk:DK}{u:Value}{s':Shared}(h:EP X pins (ds.zip us++p::vl) σ kk u s'):EP X pins vl σ kk u s':=let⟨d,H',I,q⟩:=h.out;⟨d,H',I.sub (by simp+contextual),q⟩
theorem Yu{pl:Sem Bool}(c:ClsD X.K X.mg C Ca fl)(F:∃f fd dv,MtD X.ev X.base k Ca m ps S dd f fd dv)(hr:Room k X.A)(th:J3 X xr)(ho:DE X xr o To)(ha:DA X xr (e::es) T)
 (hst:Ai (e::es) X.env=(false,eval e X.env)::Ai es X.env:=by rfl) (hpl:(backTo pos (Ai es X.env)).any (·.1)=false:=by rfl)
 (ht:eval (.Call (.Attribute o m apos) (e::es) [] pos) X.env=(do
  let ov <-eval o X.env
  standAt apos.atName
  let(f,first) <-holding [ov] (getMethod ov m pl)
  callWith pos f first (backTo pos (Ai (e::es) X.env)) (backToKw pos (keywordEach [] X.env))):=by rfl):DE X xr (.Call (.Attribute o m apos) (e::es) [] pos) (My C m dd S To T):= .mk λI h hx=>
 let⟨f,fd,dv,F,hb,hm,cs⟩:=F
 Fs (pl:=pl) (FO (ho I h hx) λu s1 ⟨x,H1,I1,q0,q⟩=>by obtain⟨a,fs,rfl,ea,l⟩:=Lw q0;cases I1.hv.r;refine Qm c I1 hm ea l (PySem.W.callWith_K (first:=[.ref a]) (h₀:=X.base) I1.ok.mod.kin hm.kp (FO (ha pos I1 q hx) λus s2 ⟨ds,H2,I2,l,q2⟩=>⟨I2.kIn,FO (Ms (us:= .ref a::us) F hb hr th I2 (.cons (.ref a) (I2.vals l)) cs.rvs q2 hx) λ_ _ z=>z.out1⟩) hst hpl)) ht
theorem Zv{pl:Sem Bool}(c:ClsD X.K X.mg C Ca fl)(F:∃f fd dv,MtD X.ev X.base k Ca m ps S dd f fd dv)(hr:Room k X.A)(th:J3 X xr)(ho:DE X xr o To)
 (ht:eval (.Call (.Attribute o m apos) [] [] pos) X.env=(do
  let ov <-eval o X.env
  standAt apos.atName
  let(f,first) <-holding [ov] (getMethod ov m pl)
  callWith pos f first (backTo pos (Ai [] X.env)) (backToKw pos (keywordEach [] X.env))):=by rfl):DE X xr (.Call (.Attribute o m apos) [] [] pos) (My C m dd S To FK):= .mk λI h hx=>
 let⟨f,fd,dv,F,hb,hm,cs⟩:=F
 Fs (pl:=pl) (FO (ho I h hx) λu s1 ⟨x,H1,I1,q0,q⟩=>by obtain⟨a,fs,rfl,ea,l⟩:=Lw q0;cases I1.hv.r;exact Qm c I1 hm ea l (F7 (first:=[.ref a]) I1.kIn hm.kp (FO (Ms (us:=[.ref a]) (ds:=[.ref a]) F hb hr th I1 (.cons (.ref a) .nil) cs.rvs q hx) λ_ _ z=>EP.out1 (ds:=[]) (us:=[]) z))) ht
theorem WQ{pl:Sem Bool}(c:ClsD X.K X.mg C Ca fl)(F:∃f fd dv,MtD X.ev X.base k Ca m ps S [] f fd dv)(hr:Room k X.A)(th:J3 X xr)(ho:DE X xr o To)(ha:DA X xr (e::es) T)
 (hst:Ai (e::es) X.env=(false,eval e X.env)::Ai es X.env:=by rfl) (hpl:(backTo pos (Ai es X.env)).any (·.1)=false:=by rfl)
 (ht:eval (.Call (.Attribute o m apos) (e::es) [] pos) X.env=(do
  let ov <-eval o X.env
  standAt apos.atName
  let(f,first) <-holding [ov] (getMethod ov m pl)
  callWith pos f first (backTo pos (Ai (e::es) X.env)) (backToKw pos (keywordEach [] X.env))):=by rfl):DE X xr (.Call (.Attribute o m apos) (e::es) [] pos) (KO C m S To T):=by
 rw[<-Zw];exact Yu c F hr th ho ha hst hpl ht
end
section
variable{X:Cx}{xr:XR}{C x:Str}{Ca:Addr}{fl ps:List Str}{k:Nat}{S:FS}{e:Expr}{es:List Expr}{T:G6}{p pos:Pos}{pins:List (Addr×Obj)}{vl:List (D×Value)}{σ:Sd}{H:Hx}{s:Shared}
theorem Inv.made(I:Inv X pins vl σ H s)(m:X.mg C=some (.ref Ca)):Inv X pins vl σ ((H.own s.heap.objs.size (s.heap.objs.size+1)).to (put H.hd (s.heap.objs.size+1) (.ins C []))) {s with heap:=(s.heap.push Bo).push (Bv Ca s.heap.objs.size)}:=by
 have e1:(s.heap.push Bo).get? s.heap.objs.size=some Bo:=Ak s.heap rfl;have e2:((s.heap.push Bo).push (Bv Ca s.heap.objs.size)).get? (s.heap.objs.size+1)=some (Bv Ca s.heap.objs.size):=by
  have:=Ak (s.heap.push Bo) (o:=Bv Ca s.heap.objs.size) rfl
  rwa [Bu] at this
 have e3:(s.heap.push Bo).Ns s.heap.objs.size (λ_=>none):=⟨Bo,#[],_,e1,rfl,(λe he=>absurd he (by simp)),λ_=>rfl⟩;have k:∀b u,s.heap.get? b=some u->((s.heap.push Bo).push (Bv Ca s.heap.objs.size)).get? b=some u:=λb u q=>Ad _ (Ad _ q);have lt:∀{b u},s.heap.get? b=some u->b≠s.heap.objs.size/\b≠s.heap.objs.size+1:=λq=>by have:=As q;constructor<;>lia
 have im:Im s.heap H ((s.heap.push Bo).push (Bv Ca s.heap.objs.size)) ((H.own s.heap.objs.size (s.heap.objs.size+1)).to (put H.hd (s.heap.objs.size+1) (.ins C []))):=λb u q f=>⟨k b u q,(FR (lt q).2).trans f.1,(if_neg (lt q).1).trans f.2⟩;have f1:=I.hok.fresh (Nat.le_succ s.heap.objs.size);have f0:=I.hok.fresh (Al s.heap.objs.size);refine I.upd (t':=s.toks) ⟨im,λb u q _=>k b u q,λb n=>?_⟩ ⟨λa o q=>?_,λb y q=>?_⟩
 . have ne0:b≠s.heap.objs.size:=λz=>by rw[z] at n;cases f0.2.symm.trans n.2
   have ne1:b≠s.heap.objs.size+1:=λz=>by rw[z] at n;cases f1.2.symm.trans n.2
   exact⟨(FR ne1).trans n.1,(if_neg ne0).trans n.2⟩
 . by_cases z:a=s.heap.objs.size+1
   . subst z;cases(put_same.symm.trans q);exact⟨AK _,Ca,s.heap.objs.size,λ_=>none,m,if_pos rfl,e2,(Heap.Ns1.of_empty e3).at λo q=>Ad _ q,λy hy=>absurd rfl hy,λ_=>True.intro⟩
   . refine(I.hok.at' a o ((FR z).symm.trans q)).stay im (λb u _ q=>k b u q) λb w=>(if_neg ?_).trans w;rintro rfl;cases f0.2.symm.trans w
 . have q:(if b=s.heap.objs.size then some (s.heap.objs.size+1) else H.ow b)=some y:=q
   split at q
   . rename_i z;subst z;exact⟨(FR (by lia)).trans f0.1,_,Ad _ e1⟩
   . obtain⟨n,o,e⟩:=I.hok.ow b y q;exact⟨(FR (lt e).2).trans n,o,k b o e⟩
theorem Yg{prog:AM}{w:World}{A:Ax}{s:Shared}{K:AT}{C f:Addr}{R:Result->Shared->Prop}{vs:List Value}{kw:List (Str×Value)}(X:K.In s.heap)(hm:PySem.W.makesIn K C=true)
 (hi:BX K (.ref C) "__init__"=some (some (.ref f))) (hf:PySem.W.typeIn K (.ref f)=some (.type "function"))
 (h:codeAny (model prog w) (A.under (.builtin "type.__call__" ⟨.ref C::vs,kw⟩)) (.call (.ref f) ⟨.ref (s.heap.objs.size+1)::vs,kw⟩) (PySem.W.InitBack (s.heap.objs.size+1) R)
  {s with heap:=(s.heap.push Bo).push (Bv C s.heap.objs.size)}):
 codeAny (model prog w) A (.call (.ref C) ⟨vs,kw⟩) R s:=by
 obtain⟨hh,g,d,t,os⟩:=s;exact PySem.W.make_core (PySem.W.makes_of X hm) (PySem.W.looks_findIn X hi) (λself=>PySem.W.bind_fn X self hf) (.inl rfl) h
theorem V8{f:Addr}{fd:BL}{kk:DK}{ee:G9}{us:List Value}{ds:List D}(m:X.mg C=some (.ref Ca))(M:Mk X.K Ca f)(F:FnOk X.ev X.base k f fd ps S)(hr:Room (k+1) X.A)(hb:Binds X.K fd ps [])(th:J3 X xr)
 (I:Inv X pins vl σ H s) (r:Rvs X.ev s.heap H ds us) (h:∀x,H.hd x=none->S (.ref x::ds) (put H.hd x (.ins C [])) (λv h2=>v= .non/\kk (.ref x) h2) ee) (hx:∀c h,ee c h->xr σ c h):X.W (call (.ref Ca) us) (EP X pins vl σ kk) s:=by
 have hq:=h (s.heap.objs.size+1) (I.hok.fresh (Nat.le_succ _)).1;have I2:=I.made m;have im:Im s.heap H ((s.heap.push Bo).push (Bv Ca s.heap.objs.size)) ((H.own s.heap.objs.size (s.heap.objs.size+1)).to (put H.hd (s.heap.objs.size+1) (.ins C []))):=λb u q f=>by have:=As q;exact⟨Ad _ (Ad _ q),(FR (by lia)).trans f.1,(if_neg (by lia)).trans f.2⟩
 have r2:=Rvs.cons (G:=X.ev) (.ref (s.heap.objs.size+1)) (r.im im);have hl:(Value.ref (s.heap.objs.size+1)::us).length=ps.length:=r2.length.symm.trans (F.len _ _ _ _ hq);have hb:=hb _ (Value.ref (s.heap.objs.size+1)::us) I2.kIn (by rw[A9];exact hl);rw[A9] at hb;refine wpAny_call (Yg (f:=f) I.kIn M.makes M.init (beq_iff_eq.mp M.fn) (BP (F.run _ X.stack _ _ ⟨Value.ref (s.heap.objs.size+1)::us,[]⟩ _ _ _ ee (hr.make Ca us) (I2.env0.make Ca us) hb r2 hq) λr s' hq'=>?_));cases r with
 | error e=>obtain⟨a,C,c,H',rfl,m,fl,q'⟩:=hq';exact th I2 fl m (hx _ _ q')
 | ok fl=>
  cases fl with
  | ret u=> obtain⟨v,H',I3,ev,q3⟩:=I2.after (kk:=λv h2=>v= .non/\kk (.ref (s.heap.objs.size+1)) h2) (u:=u) hq';subst ev;cases I3.hv.n;exact⟨rfl,I3.tl.ret (.ref _) q3⟩
  | _=>exact E7 hq'
theorem Yt(c:ClsD X.K X.mg C Ca fl)(F:∃f fd,MkD X.ev X.base k Ca ps S f fd)(hr:Room (k+1) X.A)(th:J3 X xr)(hg:Gl X C)(hdb:(C==("__debug__":Str))=false:=by decide):DE X xr (.Call (.Name C p) [] [] pos) (OR C S FK):= .mk λI h hx=>
 let⟨f,fd,F,h2,M⟩:=F
 Bq (MD I hg c.m (F7 I.kIn M.kp (V8 (us:=[]) c.m M F hr h2 th I .nil h hx)) hdb)
end
structure Bl(mg:Str->Option Value):Prop where
 len_:mg "len"=none
 range_:mg "range"=none
 isinstance_:mg "isinstance"=none
 int_:mg "int"=none
 bool_:mg "bool"=none
 tuple_:mg "tuple"=none
 list_:mg "list"=none
 max_:mg "max"=none
 min_:mg "min"=none
 all_:mg "all"=none
 zip_:mg "zip"=none
 str_:mg "str"=none
 dict_:mg "dict"=none
 sorted_:mg "sorted"=none
 set_:mg "set"=none
 any_:mg "any"=none
 sum_:mg "sum"=none
 enumerate_:mg "enumerate"=none
 repr_:mg "repr"=none
 ord_:mg "ord"=none
 chr_:mg "chr"=none
 abs_:mg "abs"=none
 reversed_:mg "reversed"=none
 type_:mg "type"=none
theorem V2:AN "int"=some (.type "int"):=by decide+kernel
theorem WE:AN "bool"=some (.type "bool"):=by decide+kernel
theorem Rn:AN "tuple"=some (.type "tuple"):=by decide+kernel
theorem Qa:AN "list"=some (.type "list"):=by decide+kernel
theorem Ps:AN "str"=some (.type "str"):=by decide+kernel
theorem Vc:AN "set"=some (.type "set"):=by decide+kernel
noncomputable def Gh(f:It)(T:G6):TD:=λσ hd k e=>T σ hd (λds h1=>f ds h1 k) e
noncomputable def JM(f:List D->Hd->(List D->Hd->Prop)->Prop)(T:G6):G6:=λσ hd k e=>T σ hd (λds h1=>f ds h1 k) e
noncomputable def MU(X:Cx)(o:List Value->Sem Value)(f:List D->Hd->(List D->Hd->Prop)->Prop):Prop:=∀{pins vl s σ H k ds us},Inv X pins vl σ H s->Rvs X.ev s.heap H ds us->f ds H.hd k->X.W (o us) (NP X pins vl σ k) s
theorem NP.out{X:Cx}{pins vl σ}{k:List D->Hd->Prop}{ds:List D}{us:List Value}{u:Value}{s':Shared}(h:NP X pins (ds.zip us++vl) σ k u s'):NP X pins vl σ k u s':=
 let⟨es,p,ws,n,H',e,I,l,z,w,f,q⟩:=h;⟨es,p,ws,n,H',e,I.sub λx hx=>(Aq.mp hx).elim (λz=>A1 _ z) λz=>Am _ (Am _ z),l,z,w,f,q⟩
section
variable{X:Cx}{xr:XR}{x:Str}{p pos:Pos}{e:Expr}{es:List Expr}{T:G6}{id ty:String}{f:It}{g:List D->Hd->(List D->Hd->Prop)->Prop}
variable(hg:Gl X x)(hm:X.mg x=none)
theorem JX(hc:IM X (λus=>call (.builtin id) us) f)(hg:Gl X x)(hm:X.mg x=none)(hv:AN x=some (.builtin id))(ha:DA X xr (e::es) T)(hn:x≠"__name__":=by decide)(hdb:(x==("__debug__":Str))=false:=by decide)
 (he:Ai (e::es) X.env=(false,eval e X.env)::Ai es X.env:=by rfl) (hpl:(backTo pos (Ai es X.env)).any (·.1)=false:=by rfl):DE X xr (.Call (.Name x p) (e::es) [] pos) (Gh f T):= .mk λI h hx=>
 Bq (Js I hg hm hv (callWith_builtin1 (FO (ha pos I h hx) λus s1 ⟨ds,H1,I1,l,q⟩=>FO (hc I1 (I1.vals l) q) λ_ _ z=>z.out) he hpl) hn hdb)
theorem QS(hc:IM X (λus=>call (.type ty) us) f)(hg:Gl X x)(hm:X.mg x=none)(hv:AN x=some (.type ty))(ha:DA X xr (e::es) T)(hn:x≠"__name__":=by decide)(hdb:(x==("__debug__":Str))=false:=by decide)
 (he:Ai (e::es) X.env=(false,eval e X.env)::Ai es X.env:=by rfl) (hpl:(backTo pos (Ai es X.env)).any (·.1)=false:=by rfl):DE X xr (.Call (.Name x p) (e::es) [] pos) (Gh f T):= .mk λI h hx=>
 Bq (Js I hg hm hv (callWith_type1 (FO (ha pos I h hx) λus s1 ⟨ds,H1,I1,l,q⟩=>FO (hc I1 (I1.vals l) q) λ_ _ z=>z.out) he hpl) hn hdb)
theorem XT(hc:MU X (λus=>call (.builtin id) us) g)(hg:Gl X x)(hm:X.mg x=none)(hv:AN x=some (.builtin id))(ha:DA X xr (e::es) T)(hn:x≠"__name__":=by decide)(hdb:(x==("__debug__":Str))=false:=by decide)
 (he:Ai (e::es) X.env=(false,eval e X.env)::Ai es X.env:=by rfl) (hpl:(backTo pos (Ai es X.env)).any (·.1)=false:=by rfl):DN X xr (.Call (.Name x p) (e::es) [] pos) (JM g T):= .mk λI h hx=>
 Bq (Js I hg hm hv (callWith_builtin1 (FO (ha pos I h hx) λus s1 ⟨ds,H1,I1,l,q⟩=>FO (hc I1 (I1.vals l) q) λ_ _ z=>z.out) he hpl) hn hdb)
theorem XU(hc:MU X (λus=>call (.type ty) us) g)(hg:Gl X x)(hm:X.mg x=none)(hv:AN x=some (.type ty))(ha:DA X xr (e::es) T)(hn:x≠"__name__":=by decide)(hdb:(x==("__debug__":Str))=false:=by decide)
 (he:Ai (e::es) X.env=(false,eval e X.env)::Ai es X.env:=by rfl) (hpl:(backTo pos (Ai es X.env)).any (·.1)=false:=by rfl):DN X xr (.Call (.Name x p) (e::es) [] pos) (JM g T):= .mk λI h hx=>
 Bq (Js I hg hm hv (callWith_type1 (FO (ha pos I h hx) λus s1 ⟨ds,H1,I1,l,q⟩=>FO (hc I1 (I1.vals l) q) λ_ _ z=>z.out) he hpl) hn hdb)
end
noncomputable def GO:It:=λds hd k=>match ds with
 | [d]=>(match seqD hd d with
  | some xs=>k (.int xs.length) hd
  | none=>(match d with
   | .str x=>x.length<=An/\k (.int x.length) hd
   | .ref a=>(match hd a with | some (.dct _ ks _)=>k (.int ks.length) hd | _=>False)
   | _=>False))
 | _=>False
noncomputable def Nb(ds:List D)(hd:Hd)(k:List D->Hd->Prop):Prop:=match ds with
 | [d]=>(match seqD hd d with | some xs=>k xs hd | none=>False)
 | _=>False
noncomputable def KQ:It:=λds hd k=>match ds with
 | [d]=>(match seqD hd d with | some xs=>k (.tup xs) hd | none=>False)
 | _=>False
noncomputable def Lh:D->Bool
 | .bl _=>true
 | _=>false
noncomputable def Ko:D->Bool
 | .bl b=>b
 | _=>false
noncomputable def isI:D->Bool
 | .int _=>true
 | _=>false
noncomputable def Jj(g:List Bool->Bool):It:=λds hd k=>match ds with
 | [d]=>(match seqL hd d with | some xs=>(bif xs.all Lh then k (.bl (g (xs.map Ko))) hd else False) | none=>False)
 | _=>False
noncomputable def M_(g:Int->Int->Int):It:=λds hd k=>match ds with
 | [.int i,.int j]=>k (.int (g i j)) hd
 | _=>False
noncomputable def Mb:It:=λds hd k=>match ds with
 | [.int i]=>k (.int (if i<0 then -i else i)) hd
 | _=>False
noncomputable def Jd:It:=M_ λi j=>if j>i then j else i
noncomputable def II:It:=M_ λi j=>if j<i then j else i
theorem Ku{X:Cx}{o:List Value->Sem Value}{f:It}(h:∀{pins vl s σ H k d u},Inv X pins vl σ H s->Rv X.ev s.heap H d u->f [d] H.hd k->X.W (o [u]) (EP X pins vl σ k) s)(h0:∀ds hd k,f ds hd k->∃d,ds=[d]):IM X o f:=λI r q=>by obtain⟨d,rfl⟩:=h0 _ _ _ q;obtain⟨_,rfl,a⟩:=r1 r;exact h I a q
section
variable{prog:AM}{w:World}{A:Ax}{E:Value->Shared->Prop}{s:Shared}{d:Addr}{o:Obj}{es:Array En}{ep:Nat}
theorem RU{Q:Value->Shared->Prop}(hd:(d==BR)=false)(h1:s.heap.get? d=some o)(h2:o.ExactDict)(h3:o.data= .dict es ep)(hfit:(es.size:Int)<2^63)
 (h:Q (.int es.size (s.toks+1)) {s with toks:=s.toks+1+1}):wpAny (model prog w) A (Builtin.«len» ⟨[.ref d],[]⟩) (λfin s'=>∃r,fin= .done (.ret r)/\Q r s') E s:=by
 have ty:s.TypeIs (.ref d) "dict":=⟨o,h1,h2.1⟩;unfold Builtin.«len»;refine Aa (m:=oneArg "len" _) (Ab ?_);refine Aa (m:=callSpecial? (.ref d) (Au "__len__")) (AJ (name:=Au "__len__") ty CQ
  (A7 CQ ty PySem.F.entry_dict_len ?_ (PySem.F.args_dict_len_1 _)))
 show wpAny _ _ (dictSize d>>=_) _ _ s;unfold dictSize;refine Aa (Aa (Cd h1 h3 (Ab ?_)));show wpAny _ _ (Builtin.Dict.pendingCount d>>=_) _ _ s;refine Aa (wpAny_pendingCount_other hd ?_);refine EU ?_;rw[Nat.add_zero];show wpAny _ _ _ _ _ {s with toks:=s.toks+1}
 refine Aa (Av (Ab ?_));refine Aa (Db ?_);show wpAny _ _ (if((es.size:Nat):Int)<0 then _ else _) _ _ _
 rw[if_neg (by lia)];show wpAny _ _ (if((es.size:Nat):Int)>=2^63 then _ else _) _ _ _
 rw[if_neg (by lia)];exact Aa (wpAny_mkInt (Ab ⟨_,rfl,h⟩))
theorem YT{Q:Bool->Shared->Prop}(hd:(d==BR)=false)(h1:s.heap.get? d=some o)(h2:o.ExactDict)(h3:o.data= .dict es ep)(hfit:(es.size:Int)<2^63)
 (h:Q ((es.size:Int) !=0) {s with toks:=s.toks+1+1}):wpAny (model prog w) A (truthy (.ref d)) Q E s:=by
 have ty:s.TypeIs (.ref d) "dict":=⟨o,h1,h2.1⟩;have key:wpAny (model prog w) A (runValue (.builtin "len" ⟨[.ref d],[]⟩)) (λr s'=>r= .int es.size (s.toks+1)/\Q ((es.size:Int) !=0) s') E s:=by
  refine Ft (BM entry_len ?_);rw[B6 plain_len _];exact AO (RU (Q:=λr s'=>r= .int es.size (s.toks+1)/\Q ((es.size:Int) !=0) s') hd h1 h2 h3 hfit ⟨rfl,h⟩)
   (λfin s' h'=>by obtain⟨r,rfl,hq⟩:=h';exact hq) λ_ _ e=>e
 unfold truthy
 first
  | refine Aa (EN (name:=Au "__bool__") ty noBool_dict ?_)
  | refine Aa (Ab (Aa (EN (name:=Au "__bool__") ty noBool_dict ?_)))
 first
  | refine Aa (Bw (name:=Au "__len__") ty CQ.lookup ?_)
  | refine Aa (Ab (Aa (Bw (name:=Au "__len__") ty CQ.lookup ?_)))
 first
  | exact Aa (AO key (λr s' h'=>by obtain⟨rfl,hq⟩:=h';exact Ab hq) λ_ _ e=>e)
  | exact Aa (Ab (Aa (AO key (λr s' h'=>by obtain⟨rfl,hq⟩:=h';exact Ab hq) λ_ _ e=>e)))
end
theorem Xc{X:Cx}{pins vl σ H s d u}{k:Bool->Hd->Prop}(I:Inv X pins ((d,u)::vl) σ H s)(q:Hp k d H.hd):X.W (truthy u) (TP X pins vl σ k) s:=by
 have hl:=L4;have r:=I.hv;have J:=I.tl;cases d with
 | non=>cases r.n;exact truthy_none ⟨H,J,q⟩
 | bl b=>cases r.b;exact AR ⟨H,J,q⟩
 | int i=>obtain⟨_,rfl⟩:=r.i;exact PySem.P.truthy_int ⟨H,J,q⟩
 | str y=>obtain⟨_,rfl⟩:=r.s;have l:=q.1;exact PySem.P.truthy_str (by lia) ⟨H,J.tok _,q.2⟩
 | tup xs=>
  cases r with | @tup a us _ p r2=>
   obtain⟨_,z,o,n,e1,e2,_,e3,_⟩:=p;have em:us.isEmpty=xs.isEmpty:=by have:=r2.length;cases xs<;>cases us<;>simp at this<;>rfl
   exact truthy_tuple (items:=us.toArray) ⟨o,e1,e2,n,e3⟩ (by simp only[Ay];lia) ⟨H,J.tok _,by simp only[DU,em];exact q⟩
 | lst xs=>
  cases r with | @lst a us _ p r2=>
   obtain⟨_,z,o,n,e1,e2,_,e3,_⟩:=p;have em:us.isEmpty=xs.isEmpty:=by have:=r2.length;cases xs<;>cases us<;>simp at this<;>rfl
   exact wpAny_truthy_list (items:=us.toArray) ⟨o,e1,e2,n,e3⟩ (by simp only[Ay];lia) ⟨H,J.tok _,by simp only[DU,em];exact q⟩
 | ref a=>
  cases r.r;unfold Hp at q;dsimp only at q
  split at q
  . rename_i xs e;obtain⟨us,n,z,r2,e1⟩:=J.hok.at' a _ e;have em:us.isEmpty=xs.isEmpty:=by have:=r2.length;cases xs<;>cases us<;>simp at this<;>rfl
    have:=r2.length;exact wpAny_truthy_list (items:=us.toArray) ⟨_,e1,rfl,n,rfl⟩ (by simp only[Ay];lia) ⟨H,J.tok _,by simp only[DU,em];exact q⟩
  . rename_i t ks vs e;obtain⟨ep,l,y,_,_,o,us,ws,eo,d,r1,_⟩:=J.hok.at' a _ e;obtain⟨es,ed,ez⟩:=d.size r1.length;have em:((es.size:Int) !=0)=!ks.isEmpty:=by rw[ez];cases ks<;>simp;lia
    exact YT y eo d.1 ed (by lia) ⟨H,J.tok _,by rw[em];exact q⟩
  . exact q.elim
 | _=>exact q.elim
theorem Wd{X:Cx}{xr:XR}{a:Expr}{Ta:TD}(ha:DE X xr a Ta)(he:∀whole,isTrue a X.env whole=(do let v <-whole;standAt a.pos;holding [v] (truthy v)):=by intro _;rfl):DT X xr a (Gc Ta):= .mk λI h hx=> isTrue_plain (FO (ha I h hx) λ_ _ ⟨_,_,I1,q⟩=>Xc I1 q) (he _)
section
variable{X:Cx}
theorem Yl:IM X (λus=>call (.builtin "len") us) GO:=@Ku X (λus=>call (.builtin "len") us) GO (λ{pins vl s σ H k d u}I r q=>by
 unfold GO at q;have hl:=L4;cases e:seqD H.hd d with
 | some xs=>
  simp only[e] at q;obtain⟨a,us,rfl,w,r2,z⟩:=I.seqD r e;have ll:=r2.length;rcases w with⟨n,w⟩ | w
  . exact Calls.call_len_list (items:=us.toArray) ⟨_,w,rfl,n,rfl⟩ (by simp only[Ay];lia) (by simp only[Ay,<-ll];exact(I.tok _).ret (.int _ _) q)
  . exact len_tuple w (by simp only[Ay];lia) (by simp only[Ay,<-ll];exact(I.tok _).ret (.int _ _) q)
 | none=>
  simp only[e] at q;cases d with
  | str x=>obtain⟨_,rfl⟩:=r.s;have l:=q.1;exact len_str (by lia) ((I.tok _).ret (.int _ _) q.2)
  | ref a=>
   cases r.r;dsimp only at q
   split at q
   . rename_i t ks vs e2;obtain⟨ep,l,y,_,_,o,us,ws,eo,d,r1,_⟩:=I.hok.at' a _ e2;obtain⟨es,ed,ez⟩:=d.size r1.length;have:=sizeLine_eq;exact Di kind_len plain_len entry_len (args_len1 _) (RU y eo d.1 ed (by lia) (by rw[ez];exact(I.tok _).ret (.int _ _) q))
   . exact q.elim
  | _=>exact q.elim) (λ_ _ _ q=>(l1 q).imp λ_ e=>e.1)
theorem Y0:MU X (λus=>call (.type "list") us) Nb:=λ{pins vl s σ H k ds us}I r q=>by
 . replace q:=l1 q;obtain⟨d,rfl,q⟩:=q
   obtain⟨u0,rfl,r1⟩:=r1 r
   split at q
   . rename_i xs e;obtain⟨a,ws,rfl,w,r2,z⟩:=I.seqD r1 e;have fin:∀(h':Heap)(c':Nat),(∀b o',s.heap.get? b=some o'->h'.get? b=some o')->HY h' s.heap.objs.size ws c'->NP X pins vl σ k (.ref s.heap.objs.size) {s with heap:=h'}:=λh' c' kp e=>by
      have I1:=(I.hold r2).born (t':=s.toks) [s.heap.objs.size] kp λb hb=>by cases Af.mp hb;exact⟨Al _,_,e⟩
      exact⟨xs,_,ws,_,_,rfl,I1,r2.length,e,r2.length ▸ z,I.fpOk (Al _) ⟨(I.hok.fresh (Al _)).1,if_pos (by simp)⟩,q⟩
     rcases w with⟨n,w⟩ | ⟨o,ho,hc,n,hd⟩
     . exact call_list_seq a (.inl rfl) w rfl rfl fin (by simpa using z)
     . exact call_list_seq a (.inr rfl) ho hc hd fin (by simpa using z)
   . exact q.elim
theorem ZW:IM X (λus=>call (.type "tuple") us) KQ:=@Ku X (λus=>call (.type "tuple") us) KQ (λ{pins vl s σ H k d u}I r q=>by
 unfold KQ at q;dsimp only at q
 split at q
 . rename_i xs e;have go:seqL H.hd d=some xs->X.W (call (.type "tuple") [u]) (EP X pins vl σ k) s:=λe=>by
    obtain⟨a,us,n,rfl,w,r2,z⟩:=I.seqL r e;refine call_tuple_list (items:=us.toArray) ⟨_,w,rfl,n,rfl⟩ (λh' kp=>?_) (by simpa using z);exact(I.kept (t':=s.toks) kp).tup (r2.im λb o e f=>⟨kp b o e,f⟩) (r2.length ▸ z) q
   cases d with
   | tup zs=>cases e;cases r with | tup p r2=>obtain⟨_,_,o,n,e1,e2,_,e3,_⟩:=id p;exact call_tuple_same ⟨o,e1,e2,n,e3⟩ (I.ret (.tup p r2) q)
   | _=>exact go e
 . exact q.elim) (λ_ _ _ q=>(l1 q).imp λ_ e=>e.1)
theorem ZJ{G:Ev}{h:Heap}{H:Hx}{xs:List D}{us:List Value}(r:Rvs G h H xs us)(e:xs.all Lh=true){i:Nat}{v:Value}(hv:us[i]?=some v):v= .bool ((xs.map Ko).getD i false):=by obtain⟨d,e1,r1⟩:=r.get' hv;have:=A3.mp e d (AD e1);cases d<;>simp[Lh] at this;cases r1.b;simp[A_,e1,Ko]
theorem zf0(bs:List Bool):(A6 bs.length).all (λi=>bs.getD i false)=bs.all id:=by
 induction bs with
 | nil=>rfl
 | cons b r ih=>rw[Ao,EZ,Ce,Bp,Ce,<-ih];rfl
theorem Yk(hc:X.calm=true):IM X (λus=>call (.builtin "all") us) (Jj (·.all id)):=@Ku X (λus=>call (.builtin "all") us) (Jj (·.all id)) (λ{pins vl s σ H k d u}I r q=>by
 unfold Jj at q;dsimp only at q
 split at q
 . rename_i xs e;cases e2:xs.all Lh with
   | false=>rw[e2] at q;exact q.elim
   | true=>
    rw[e2] at q;obtain⟨a,us,n,rfl,w,r2,z⟩:=I.seqL r e;have lt:=As w;refine call_all_walk (Dx (items:=us.toArray) ⟨_,w,rfl,n,rfl⟩ ?_);refine⟨s.heap.objs.size,_,_,_,_,_,λi=>(xs.map Ko).getD i false,rfl,Walks.list (A:=X.A.in1) (I.ok.hd hc) s.heap.objs.size a (Ba lt) us.toArray,⟨⟨_,Ak _ rfl,rfl,rfl⟩,_,Ad _ w,rfl,n,rfl⟩,λi v s' Q' E' hv q'=>?_,λg t' kp=>?_⟩
    . rw[ZJ r2 e2 (v:=v) (i:=i) (by simpa using hv)];exact AR q'
    . have ll:us.toArray.size=(xs.map Ko).length:=by simp[r2.length]
      rw[ll,zf0];exact(I.kept λb o' e=>kp b o' (λz=>absurd (Af.mp z) (Ba (As e))) (Ad _ e)).ret (.bl _) q
 . exact q.elim) (λ_ _ _ q=>(l1 q).imp λ_ e=>e.1)
theorem Yj:IM X (λus=>call (.builtin "abs") us) Mb:=λ{pins vl s σ H k ds us}I r q=>by
 replace q:=i1 q
 obtain⟨i,rfl,q⟩:=q;obtain⟨u,rfl,z⟩:=r1 r;obtain⟨_,rfl⟩:=z.i;exact call_abs_int λu tk=>(I.tok _).ret (.int _ _) q
theorem Y1(hc:X.calm=true):IM X (λus=>call (.builtin "max") us) Jd:=λ{pins vl s σ H k ds us}I r q=>by
 replace q:=i2 q
 obtain⟨i,j,rfl,q⟩:=q;obtain⟨u,v,rfl,z,z'⟩:=r2 r;obtain⟨_,rfl⟩:=z.i;obtain⟨_,rfl⟩:=z'.i;refine max_two_ints (I.ok.hd hc) λh' tk kp=>(I.kept kp).ret ?_ q;show Rv _ _ _ (.int (if j>i then j else i)) _
 split<;>exact .int _ _
theorem Y2(hc:X.calm=true):IM X (λus=>call (.builtin "min") us) II:=λ{pins vl s σ H k ds us}I r q=>by
 replace q:=i2 q
 obtain⟨i,j,rfl,q⟩:=q;obtain⟨u,v,rfl,z,z'⟩:=r2 r;obtain⟨_,rfl⟩:=z.i;obtain⟨_,rfl⟩:=z'.i;refine min_two_ints (I.ok.hd hc) λh' tk kp=>(I.kept kp).ret ?_ q;show Rv _ _ _ (.int (if j<i then j else i)) _
 split<;>exact .int _ _
end
open PySem.Builtin PySem.Builtin.Str
noncomputable abbrev KF:=D->List D->Hd->DK->Prop
noncomputable def IR(T:String)(d:D)(hd:Hd):Prop:=match d with
 | .str _=>T="str"
 | .lst _=>T="list"
 | .ref a=>(match hd a with | some (.lst _)=>T="list" | some (.dct false _ _)=>T="dict" | _=>False)
 | _=>False
noncomputable def Ir(T:String)(f:KF)(To:TD)(Ta:G6):TD:=λσ hd k e=>To σ hd (λx h1=>IR T x h1/\Ta σ h1 (λds h2=>f x ds h2 k) e) e
noncomputable def MV(X:Cx)(id:String)(f:KF):Prop:=∀{pins vl s σ H k x u ds us},Inv X pins ((x,u)::vl) σ H s->Rvs X.ev s.heap H ds us->f x ds H.hd k->X.W (call (.builtin id) (u::us)) (EP X pins vl σ k) s
section
variable{X:Cx}{xr:XR}{o e:Expr}{es:List Expr}{To:TD}{Ta:G6}{name:Str}{apos cpos:Pos}{T id:String}{f:KF}{pins:List (Addr×Obj)}{vl:List (D×Value)}{σ:Sd}{H:Hx}{s:Shared}
theorem Xd{d:D}{v:Value}(I:Inv X pins ((d,v)::vl) σ H s)(ty:IR T d H.hd):s.TypeIs v T/\∀a,v= .ref a->∃ob,s.heap.get? a=some ob/\ob.dict=none:=by
 have r:=I.hv;cases d with
 | str z=>obtain⟨_,rfl⟩:=r.s;cases(show T="str" from ty);exact⟨typeIs_str s z _,nofun⟩
 | lst xs=> cases(show T="list" from ty);cases r with | lst p _=> obtain⟨_,_,o,n,e,c,d,_⟩:=p;exact⟨⟨o,e,c⟩,λa z=>by cases z;exact⟨o,e,d⟩⟩
 | ref a=>
  cases r.r;unfold IR at ty;dsimp only at ty
  split at ty
  . rename_i xs e;subst ty;obtain⟨us,n,_,_,e1⟩:=I.hok.at' a _ e;exact⟨⟨_,e1,rfl⟩,λb z=>by cases z;exact⟨_,e1,rfl⟩⟩
  . rename_i ks vs e;subst ty;obtain⟨ep,_,_,_,_,o,us,ws,e1,d,_⟩:=I.hok.at' a _ e;exact⟨⟨o,e1,d.1.1⟩,λb z=>by cases z;exact⟨_,e1,d.1.2.1⟩⟩
  . exact ty.elim
 | _=>exact ty.elim
theorem K6(pa:PlainAttrs T)(slot:Slot T name id)(hty:typeOf (.builtin id)=pure (.type "method_descriptor"))(hm:MV X id f)(ho:DE X xr o To)(ha:DA X xr (e::es) Ta)
 (hbase:attributeBase o name X.env (eval o X.env)=eval o X.env:=by rfl)
 (hfew:((backTo cpos (Ai (e::es) X.env)).all (λx=>!x.1) && (backToKw cpos (keywordEach [] X.env)).all (λx=>x.1.isSome)
  && decide ((e::es).length+([]:List Keyword).length+(if([]:List Keyword).isEmpty then 0 else 1)<30))=true:=by rfl)
 (hline:(apos.endLine==cpos.line)=true:=by rfl) (hs:Ai (e::es) X.env=(false,eval e X.env)::Ai es X.env:=by rfl) (hplain:(backTo cpos (Ai es X.env)).any (·.1)=false:=by rfl):
 DE X xr (.Call (.Attribute o name apos) (e::es) [] cpos) (Ir T f To Ta):= .mk λ{pins vl s σ H k ex}I h hx=>
 wpAny_Call_method_late hbase hfew hline rfl (FO (ho I h hx) λv s1 ⟨x,H1,I1,ty,q⟩=>by obtain⟨h1,h2⟩:=Xd I1 ty;refine⟨T,id,pa,slot,hty,h1,h2,?_⟩;have hA:=ha cpos I1 q hx;rw[hs] at hA ⊢;exact D5 (by show(false || (backTo cpos (Ai es X.env)).any (·.1))=false;rw[hplain]<;>rfl) (DR (FO hA λus s2 ⟨ds,H2,I2,l,q2⟩=>FO (hm (I2.sub (vl':=(x,v)::(ds.zip us++vl)) (by simp;grind)) (I2.vals l) q2) λ_ _ z=>z.out)))
end
noncomputable def JO:KF:=λx ds hd k=>Kc x hd λa xs=>(match ds with | [d]=>xs.length<An/\k .non (put hd a (.lst (xs++[d]))) | _=>False)
noncomputable def Ks:KF:=λx ds hd k=>Kc x hd λa xs=>(match ds with | [.int (.ofNat i)]=>(match xs[i]? with | some d=>(bif Nat.blt i 1000000 then k d (put hd a (.lst (xs.eraseIdx i))) else False) | none=>False) | _=>False)
noncomputable def MO:KF:=λx ds hd k=>match x,ds with
 | .str y,[.str z]=>k (.bl (decide (0+z.length<=y.length) && subAt y z 0)) hd
 | _,_=>False
noncomputable def JR:List D->Option (List Str)
 | []=>some []
 | .str x::r=>(match JR r with | some l=>some (x::l) | none=>none)
 | _::_=>none
noncomputable def Mn:List D->Option (List Int)
 | []=>some []
 | .int x::r=>(match Mn r with | some l=>some (x::l) | none=>none)
 | _::_=>none
theorem Od:∀{ds:List D}{xs:List Str},JR ds=some xs->ds=xs.map .str
 | [],xs,h=>by cases h;rfl
 | .str x::r,xs,h=>by
  unfold JR at h
  split at h
  . rename_i l e;cases h;rw[Od e];rfl
  . cases h
theorem QZ:∀{ds:List D}{xs:List Int},Mn ds=some xs->ds=xs.map .int
 | [],xs,h=>by cases h;rfl
 | .int x::r,xs,h=>by
  unfold Mn at h
  split at h
  . rename_i l e;cases h;rw[QZ e];rfl
  . cases h
theorem LF:∀xs:List Str,JR (xs.map .str)=some xs
 | []=>rfl
 | x::xs=>by rw[Aj];unfold JR;rw[LF xs]
noncomputable def Mo:KF:=λx ds hd k=>match x,ds with
 | .str y,[l]=>(match seqL hd l with
  | some xs=>(match JR xs with | some ts=>JoinOk y ts=true/\k (.str (Dp y ts)) hd | none=>False)
  | none=>False)
 | _,_=>False
theorem QN{G:Ev}{h:Heap}{H:Hx}:∀{ts:List Str}{us:List Value},Rvs G h H (ts.map .str) us->∃l:List (Str×Tok),strValues l=us/\l.map (·.1)=ts
 | [],_,h=>by cases h.n;exact⟨[],rfl,rfl⟩
 | x::ts,_,h=>by
  rw[Aj] at h;cases h with
  | cons r h=> cases r with | str _ t=> obtain⟨l,h1,h2⟩:=QN h;exact⟨(x,t)::l,by rw[<-h1];rfl,by rw[<-h2];rfl⟩
section
variable{X:Cx}
theorem Inv.lstM{pins vl σ H s a xs}(I:Inv X pins vl σ H s)(e:H.hd a=some (.lst xs)):∃us n,xs.length<=An/\Rvs X.ev s.heap H xs us/\HY s.heap a us n/\us.length=xs.length:=let⟨us,n,z,r,e1⟩:=I.hok.at' a _ e;⟨us,n,z,r,e1,r.length.symm⟩
theorem Inv.lput{pins vl σ H s a xs k h' us n ys v u}{t':Nat}(I:Inv X pins vl σ H s)(e:H.hd a=some (.lst xs))(sb:AU a s.heap h')(l:HY h' a us n)(r:Rvs X.ev s.heap H ys us)(z:ys.length<=An)(rv:Rv X.ev s.heap H v u)(q:k v (put H.hd a (.lst ys))):EP X pins vl σ k u {s with heap:=h',toks:=t'}:=
 ⟨v,_,(I.cons rv).lset e sb l r z,q⟩
theorem Zj:MV X "list.append" JO:=λ{pins vl s σ H k x u ds us}I r q=>by
 obtain⟨a,xs,rfl,e,q'⟩:=No q
 . clear q;replace q':=l1 q';obtain⟨d,rfl,q⟩:=q';obtain⟨_,rfl,r1⟩:=r1 r;cases I.hv.r;obtain⟨ws,n,z,r2,e1,l⟩:=I.lstM e;exact Qj e1 (l ▸ z) λh' m sb e2=>I.tl.lput (t':=s.toks) e sb e2 (r2.app (.cons r1 .nil)) (by rw[Ah,List.length_singleton];exact q.1) .non q.2
theorem Xm{h:Heap}{a:Addr}{us ws:List Value}{n:Nat}{f:Array Value->Array Value}(e:HY h a us n)(hf:f us.toArray=ws.toArray):∃m,HY (h.update a (·.mapSeq f)) a ws m:=by have q:=EA e f;rw[hf] at q;exact⟨_,q⟩
theorem n1{P:Nat->Prop}{ds:List D}(q:match ds with | [.int (.ofNat i)]=>P i | _=>False):∃i:Nat,ds=[.int (.ofNat i)]/\P i:=by match ds,q with | [.int (.ofNat i)],q=>exact⟨i,rfl,q⟩
theorem VV:MV X "list.pop" Ks:=λ{pins vl s σ H k x u ds us}I r q=>by
 obtain⟨a,xs,rfl,e,q'⟩:=No q;clear q
 replace q':=n1 q'
 obtain⟨i,rfl,q⟩:=q';obtain⟨w0,rfl,zz⟩:=r1 r;cases zz with
 | int _ t=>
  cases I.hv.r;have q:(match xs[i]? with | some d=>(bif Nat.blt i 1000000 then k d (put H.hd a (.lst (xs.eraseIdx i))) else False) | none=>False):=q
  split at q
  case h_2=>exact q.elim
  rename_i d e2;generalize e3:Nat.blt i 1000000=bb at q;cases bb with
  | false=>exact q.elim
  | true=> have lt:i<1000000:=CF.mp e3;obtain⟨ws,n,z,r2,e1,l⟩:=I.lstM e;obtain⟨y,ey,ry⟩:=r2.get e2;have l2:=(Ar.mp ey).1;have⟨p,e4⟩:=Xm (ws:=ws.eraseIdx i) (f:=λxs=>xs.eraseIdxIfInBounds i) e1 (List.eraseIdxIfInBounds_toArray ..);have fin:=I.tl.lput (t':=s.toks) e (.update ..) e4 (r2.erase i) (At (EL xs i) z) ry q;have hk:seqIndex? (Int.ofNat i) ws.toArray.size=some i:=seqIndex_of (Eo i) (by rw[Ay];exact Int.ofNat_lt.mpr l2);have hf:Builtin.List.listFitsIndex (Int.ofNat i)=true:=fitsIndex_both (by show -(2^63)<=((i:Nat):Int);lia) (by show((i:Nat):Int)<2^63;lia);generalize Int.ofNat i=j at hk hf ⊢;exact call_meets F.slot_list_pop ⟨_,e1,rfl⟩ F.entry_list_pop (F.args_list_pop_2 _ _) (MeetsSeq.list_pop_at a ws.toArray n j t i y hf hk (by simpa using ey) (by rw[Ay,l];exact z)) ⟨e1,fin⟩
theorem XE:MV X "str.join" Mo:=λ{pins vl s σ H k x u ds us}I r q=>by
 unfold Mo at q
 split at q
 . rename_i y d
   . obtain⟨w0,rfl,r1⟩:=r1 r
     split at q<;>try exact q.elim
     rename_i xs e1
     split at q<;>try exact q.elim
     rename_i ts e2;obtain⟨_,rfl⟩:=I.hv.s;obtain⟨a,ws,n,rfl,w,r2,z⟩:=I.seqL r1 e1;rw[Od e2] at r2;obtain⟨l,rfl,rfl⟩:=QN r2;have hok:=q.1;unfold JoinOk at hok;rw[Dz] at hok;exact call_meets F.slot_str_join (typeIs_str _ _ _) F.entry_str_join (F.args_str_join_2 _ _) (meets_str_join_list y _ a l hok) ⟨⟨_,w,rfl,n,rfl⟩,post_join l ⟨joinFit_length hok,λt' kk=>(I.tl.tok kk).ret (.str _ t') q.2⟩⟩
 . exact q.elim
end
noncomputable def HB(hd:Hd):D->String
 | .non=>"NoneType"
 | .bl _=>"bool"
 | .int _=>"int"
 | .str _=>"str"
 | .tup _=>"tuple"
 | .lst _=>"list"
 | .ref a=>(match hd a with | some (.lst _)=>"list" | some (.dct _ _ _)=>"dict" | _=>"")
 | _=>""
noncomputable def Jc(t:String):Bool:=t=="NoneType" || t=="bool" || t=="int" || t=="str" || t=="tuple" || t=="list" || t=="dict"
noncomputable def Jx(t:String):Bool:=t=="bool" || t=="int" || t=="str" || t=="tuple" || t=="list" || t=="dict" || t=="float"
noncomputable def Li(t c:String):Bool:=t==c || (t=="bool" && c=="int")
theorem NF{K:AT}{t c:String}(h1:Jc t=true)(h2:Jx c=true):PySem.W.kitOne K (.type t) (.type c)=some (Li t c):=by simp only[Jc,Jx,CG,beq_iff_eq] at h1 h2;rcases h1 with(((((rfl | rfl) | rfl) | rfl) | rfl) | rfl) | rfl<;>rcases h2 with(((((rfl | rfl) | rfl) | rfl) | rfl) | rfl) | rfl<;>rfl
noncomputable def Pf:It:=λds hd k=>match ds with
 | [d,.ty c]=>(bif Jc (HB hd d) && Jx c then k (.bl (Li (HB hd d) c)) hd else False)
 | _=>False
noncomputable def N1:It:=λds hd k=>match ds with
 | [d,.tup [.ty a,.ty b]]=>(bif Jc (HB hd d) && Jx a && Jx b then k (.bl (Li (HB hd d) a || Li (HB hd d) b)) hd else False)
 | _=>False
noncomputable def LJ:It:=λds hd k=>match ds with
 | [.int i]=>i.natAbs.log2<1920/\k (.str (toString i)) hd
 | _=>False
section
variable{X:Cx}
theorem Q1{pins vl σ H s d u}{k:DK}(I:Inv X pins ((d,u)::vl) σ H s)(ok:Jc (HB H.hd d)=true):
 (∀{c b},PySem.W.kitOne X.K (.type (HB H.hd d)) c=some b->k (.bl b) H.hd->X.W (call (.builtin "isinstance") [u,c]) (EP X pins vl σ k) s)/\
 ∀{a:Addr}{od dd sl b n}{cs:List Value},s.heap.get? a=some ⟨.type "tuple",dd,.seq cs.toArray n,sl⟩->dd=none->od=sl->PySem.W.kitAny X.K (.type (HB H.hd d)) cs=some b->k (.bl b) H.hd->X.W (call (.builtin "isinstance") [u,.ref a]) (EP X pins vl σ k) s:=by
 have fin:∀{b},k (.bl b) H.hd->∀tk,EP X pins vl σ k (.bool b) {s with toks:=tk}:=λq tk=>(I.tl.tok tk).bl q
 have r:=I.hv;cases d with
 | non=>cases r.n;exact⟨λe q=>B_ PySem.W.kitx_none I.kIn True.intro e nofun (fin q),λh1 _ _ e q=>Cb PySem.W.kitx_none I.kIn True.intro h1 e nofun (fin q)⟩
 | bl _=>cases r.b;exact⟨λe q=>B_ PySem.W.kitx_bool I.kIn True.intro e nofun (fin q),λh1 _ _ e q=>Cb PySem.W.kitx_bool I.kIn True.intro h1 e nofun (fin q)⟩
 | int _=>obtain⟨_,rfl⟩:=r.i;exact⟨λe q=>B_ PySem.W.kitx_int I.kIn True.intro e nofun (fin q),λh1 _ _ e q=>Cb PySem.W.kitx_int I.kIn True.intro h1 e nofun (fin q)⟩
 | str _=>obtain⟨_,rfl⟩:=r.s;exact⟨λe q=>B_ PySem.W.kitx_str I.kIn True.intro e nofun (fin q),λh1 _ _ e q=>Cb PySem.W.kitx_str I.kIn True.intro h1 e nofun (fin q)⟩
 | tup _=> cases r with | tup p _=>obtain⟨_,_,o,n,e1,e2,_⟩:=p;exact⟨λe q=>B_ PySem.W.kitx_tuple I.kIn ⟨o,e1,e2⟩ e nofun (fin q),λh1 _ _ e q=>Cb PySem.W.kitx_tuple I.kIn ⟨o,e1,e2⟩ h1 e nofun (fin q)⟩
 | lst _=> cases r with | lst p _=>obtain⟨_,_,o,n,e1,e2,_⟩:=p;exact⟨λe q=>B_ D0 I.kIn ⟨o,e1,e2⟩ e nofun (fin q),λh1 _ _ e q=>Cb D0 I.kIn ⟨o,e1,e2⟩ h1 e nofun (fin q)⟩
 | ref a=>
  cases r.r;cases e2:H.hd a with
  | none=>simp[HB,e2,Jc] at ok
  | some o=>
   cases o with
   | lst xs=> rw[show HB H.hd (.ref a)="list" by simp[HB,e2]];obtain⟨us,n,_,_,e1⟩:=I.hok.at' a _ e2;exact⟨λe q=>B_ D0 I.kIn ⟨_,e1,rfl⟩ e nofun (fin q),λh1 _ _ e q=>Cb D0 I.kIn ⟨_,e1,rfl⟩ h1 e nofun (fin q)⟩
   | dct t ks ws=> rw[show HB H.hd (.ref a)="dict" by simp[HB,e2]];obtain⟨ep,_,_,_,_,o,us,ws,e1,d,_⟩:=I.hok.at' a _ e2;exact⟨λe q=>B_ PySem.W.kitx_dict I.kIn ⟨o,e1,d.1.1⟩ e nofun (fin q),λh1 _ _ e q=>Cb PySem.W.kitx_dict I.kIn ⟨o,e1,d.1.1⟩ h1 e nofun (fin q)⟩
   | ins C fs=>simp[HB,e2,Jc] at ok
   | wlk _ _ _ _=>simp[HB,e2,Jc] at ok
 | _=>simp[HB,Jc] at ok
theorem ty1{P:D->String->Prop}{ds:List D}(q:match ds with | [d,.ty c]=>P d c | _=>False):∃d c,ds=[d,.ty c]/\P d c:=by match ds,q with | [d,.ty c],q=>exact⟨d,c,rfl,q⟩
theorem Yy:IM X (λus=>call (.builtin "isinstance") us) Pf:=λ{pins vl s σ H k ds us}I r q=>by
 replace q:=ty1 q
 obtain⟨d,c,rfl,q⟩:=q;obtain⟨u,v,rfl,z,z'⟩:=r2 r;cases z'.y;cases e:Jc (HB H.hd d) && Jx c with
 | false=>rw[e] at q;exact q.elim
 | true=> rw[e] at q;rw[Ae] at e;exact(Q1 (I.cons z) e.1).1 (NF e.1 e.2) q
theorem ZT:IM X (λus=>call (.builtin "isinstance") us) N1:=λ{pins vl s σ H k ds us}I r q=>by
 unfold N1 at q
 split at q
 . rename_i d a b;cases r with | @cons _ u0 _ us1 r1 r=>cases r with | @cons _ u1 _ us2 r2 r=>cases r with | nil=>cases r2 with | @tup a0 cs _ p r=>cases r with | @cons _ c1 _ _ r3 r=>cases r with | @cons _ c2 _ _ r4 r=>cases r with | nil=>
    cases r3.y;cases r4.y;cases e:Jc (HB H.hd d) && Jx a && Jx b with
    | false=>simp only[e] at q;exact q.elim
    | true=> simp only[e] at q;rw[Ae,Ae] at e;obtain⟨_,_,⟨oc,dd,oda,sl⟩,n,e1,e2,e4,e3,_⟩:=p;dsimp only at e2 e3 e4;subst e2;subst e3;subst e4;refine(Q1 (I.cons r1) e.1.1).2 e1 rfl rfl ?_ q;simp only[PySem.W.kitAny,NF e.1.1 e.1.2,NF e.1.1 e.2];cases Li (HB H.hd d) a<;>cases Li (HB H.hd d) b<;>rfl
 . exact q.elim
theorem Y3:IM X (λus=>call (.type "str") us) LJ:=λ{pins vl s σ H k ds us}I r q=>by
 replace q:=i1 q
 obtain⟨i,rfl,q⟩:=q;obtain⟨u,rfl,z⟩:=r1 r;obtain⟨_,rfl⟩:=z.i;exact PySem.P.str_of_int q.1 (I.str q.2)
end
noncomputable def UnpTo(h h':Hd):Prop:=∀b,h' b=h b\/∃t ep ks vs,h b=some (.wlk t ep ks vs)/\h' b=some (.dct t ks vs)
theorem UnpTo.refl(h:Hd):UnpTo h h:=λ_=> .inl rfl
theorem UnpTo.one{h:Hd}{a:Addr}{t:Bool}{ep:Nat}{ks vs:List D}(e:h a=some (.dct t ks vs)):UnpTo (put h a (.wlk t ep ks vs)) h:=λb=>by
 by_cases hb:b=a
 . subst hb;exact .inr ⟨t,ep,ks,vs,put_same,e⟩
 . exact .inl (FR hb).symm
theorem Inv.unpTo{X:Cx}{pins vl σ H s}{h':Hd}(I:Inv X pins vl σ H s)(u:UnpTo H.hd h'):Inv X pins vl σ (H.to h') s:=by
 have no:∀b,H.hd b=none->h' b=none:=λb n=>by
  rcases u b with z | ⟨_,_,_,_,z,_⟩
  . exact z.trans n
  . rw[n] at z;cases z
 have im:Im s.heap H s.heap (H.to h'):=λb o e f=>⟨e,no b f.1,f.2⟩;refine I.upd (h':=s.heap) (t':=s.toks) ⟨im,λ_ _ e _=>e,λb n=>⟨no b n.1,n.2⟩⟩ ⟨λa o e=>?_,λb y e=>let⟨z,o⟩:=I.hok.ow b y e;⟨no b z,o⟩⟩;rcases u a with z | ⟨t,ep,ks,vs,z,z'⟩
 . exact(I.hok.at' a o (z.symm.trans e)).stay im (λ_ _ _ q=>q) λ_ z=>z
 . cases z'.symm.trans e;exact⟨ep,(I.hok.at' a _ z).im im λ_ q=>q⟩
noncomputable def K5(T:GC):GC:=λE σ hd=>∃h',UnpTo hd h'/\T E σ h'
section
variable{X:Cx}{xr:XR}{e:Expr}{st:Stmt}
theorem U1{T:GC}(hs:DS X xr st T):DS X xr st (K5 T):= .mk λI ⟨_,u,h⟩ hx=>hs (I.unpTo u) h hx
end
noncomputable abbrev Cx.in1(X:Cx):Cx:={X with A:=X.A.in1,xe:=λ_ _=>False}
theorem Room.in1{k:Nat}{A:Ax}(r:Room (k+1) A):Room k A.in1:=⟨r.hd,by have:=r.dp;show A.depth+3*k+5<_;lia,by have:=r.un;show A.units+1+16*k+200<_;lia,r.gd⟩
theorem Inv.in1{X:Cx}{pins vl σ H s}(I:Inv X pins vl σ H s):Inv X.in1 pins vl σ H s:=
 ⟨⟨I.ok.mod,I.ok.kind,I.ok.glob,I.ok.blt,I.ok.above,I.ok.inj,I.ok.has,I.ok.cab,I.ok.hd,I.ok.frames,I.ok.stk,I.ok.exf,I.ok.bs,I.ok.bsz,I.ok.funs,I.ok.frf⟩,I.os,I.bare,I.base,I.loc,I.val,I.cell,I.free,I.pin,I.hok,I.len⟩
theorem Inv.out1{X:Cx}{pins vl σ H s}(ok:X.Ok)(I:Inv X.in1 pins vl σ H s):Inv X pins vl σ H s:=⟨ok,I.os,I.bare,I.base,I.loc,I.val,I.cell,I.free,I.pin,I.hok,I.len⟩
noncomputable def Pg(C:Str)(S:FS):It:=λds hd k=>match ds with
 | [x]=>Kb C x hd (λ_ _=>True)/\S [x] hd (λd h=>match d with | .int n=>0<=n/\n<9223372036854775808/\k (.int n) h | _=>False) (λ_ _=>False)
 | _=>False
theorem Yz{X:Cx}{C:Str}{Ca:Addr}{fl:List Str}{k:Nat}{S:FS}(c:ClsD X.K X.mg C Ca fl)(F:∃f fd dv,MtD X.ev X.base k Ca "__len__" ["self"] S [] f fd dv)(hr:Room (k+1) X.A):IM X (λus=>call (.builtin "len") us) (Pg C S):=λ{pins vl s σ H kk ds us}I r q=>by
 obtain⟨f,fd,dv,h1,h2,h3,cs⟩:=F
 . replace q:=l1 q;obtain⟨x,rfl,q0,q⟩:=q
   obtain⟨_,rfl,r1⟩:=r1 r;obtain⟨a,fs,rfl,ea,_⟩:=Lw q0;cases r1.r;refine Di kind_len plain_len entry_len (args_len1 _) ?_;unfold Builtin.«len»;refine Aa (m:=oneArg "len" _) (Ab ?_);obtain⟨dx,mA,O,_⟩:=I.obj c.m ea;obtain⟨od,IA,_⟩:=O.look;have run:=Ms (X:=X.in1) (xr:=GV) (us:=[.ref a]) (ds:=[.ref a]) (ws:=[]) h1 h2 (Room.in1 hr) JF I.in1 (.cons (.ref a) .nil) cs.rvs (by simpa using q) (λ_ _ z=>z);refine Aa (m:=callSpecial? (.ref a) (Au "__len__")) (PySem.W.special_fn I.kIn IA h3.at_ (beq_iff_eq.mp h3.fn) (AO run (λr s' ⟨d,H2,I2,q2⟩=>?_) λ_ _ y=>y.elim));cases d with
   | int n=>
    obtain⟨_,rfl⟩:=I2.hv.i;have n1:=q2.2.1;refine Aa (Av (Ab ?_));refine Aa (Db ?_);show wpAny _ _ (if n<0 then _ else _) _ _ _
    rw[if_neg (by have:=q2.1;lia)];show wpAny _ _ (if n>=2^63 then _ else _) _ _ _
    rw[if_neg (by lia)];exact Aa (wpAny_mkInt (Ab ⟨_,rfl,((I2.tl.out1 I.ok).tok _).ret (.int _ _) q2.2.2⟩))
   | _=>exact q2.elim
end Lake
set_option maxHeartbeats 1000000
namespace Lake
open PySem.W PyProof.Rows
namespace KS
noncomputable def Hs{α:Type}(lt:Nat->Nat->Bool)(n:Nat):KasT α->(α->Prop)->Prop
 | .ret a,Q=>Q a
 | .ask i j k,Q=>i<n/\j<n/\Hs lt n (k (lt i j)) Q
variable{lt:Nat->Nat->Bool}{N:Nat}
theorem K_{α β:Type}{f:α->KasT β}{Q:β->Prop}:∀(t:KasT α),Hs lt N t (λa=>Hs lt N (f a) Q)->Hs lt N (t.bind f) Q
 | .ret _,h=>h
 | .ask _ _ k,⟨h1,h2,h⟩=>⟨h1,h2,K_ (k _) h⟩
theorem I_{α:Type}{Q Q':α->Prop}(hq:∀a,Q a->Q' a):∀(t:KasT α),Hs lt N t Q->Hs lt N t Q'
 | .ret a,h=>hq a h
 | .ask _ _ k,⟨h1,h2,h⟩=>⟨h1,h2,I_ hq (k _) h⟩
structure Ord(lt:Nat->Nat->Bool):Prop where
 as:∀a b,lt a b=true->lt b a=false
 tr:∀a b c,lt b a=false->lt c b=false->lt c a=false
theorem Ord.rfl'(O:Ord lt)(a:Nat):lt a a=false:=by
 cases h:lt a a with
 | false=>rfl
 | true=>exact(O.as a a h).symm.trans h ▸ rfl
noncomputable abbrev K(p:Array Nat)(i:Nat):Nat:=p.getD i 0
structure Ok(N:Nat)(p:Array Nat):Prop where
 perm:p.toList.Perm (A6 N)
theorem Ok.size{p:Array Nat}(h:Ok N p):p.size=N:=by have:=h.perm.length_eq;simpa using this
theorem Ok.below{p:Array Nat}(h:Ok N p){i:Nat}(hi:i<N):K p i<N:=by
 have hs:i<p.size:=by rw[h.size];exact hi
 have:p.getD i 0=p[i]:=by simp[Array.getD,hs]
 show p.getD i 0<N;rw[this];have m:p[i]∈p.toList:=by simp
 exact BA.mp (h.perm.mem_iff.mp m)
theorem Ok.of_perm{p q:Array Nat}(h:Ok N p)(e:q.Perm p):Ok N q:=⟨(Array.perm_iff_toList_perm.mp e).trans h.perm⟩
theorem Ok.rev{p:Array Nat}(h:Ok N p)(i j:Nat):Ok N (kas_rev p i j):=h.of_perm (mirror_perm _ _ _ _)
theorem Ok.bub{p:Array Nat}(h:Ok N p)(i j:Nat):Ok N (bubble p i j):=h.of_perm (bubble_perm _ _ _)
theorem Jl{p q:Array Nat}{i j:Nat}(h:p[i]?=q[j]?):K p i=K q j:=by show p.getD i 0=q.getD j 0;rw[Bz,Bz,h]
theorem Ng{p:Array Nat}(h:Ok N p){i j:Nat}(hj:j<=N)(k:Nat):K (kas_rev p i j) k=if i<=k/\k<j then K p (i+j - 1 - k) else K p k:=by
 have e:=getElem?_mirror_all (xs:=p) (i:=i) (j:=j) (by rw[h.size];exact hj) k
 split
 . rename_i c;rw[if_pos c] at e;exact Jl e
 . rename_i c;rw[if_neg c] at e;exact Jl e
theorem ON{p:Array Nat}(h:Ok N p){k l:Nat}(hk:k<N)(hl:l<=k)(i:Nat):K (bubble p k (k - l)) i=if i=l then K p k else if l<i/\i<=k then K p (i - 1) else K p i:=by
 have e:=getElem?_bubble (xs:=p) (src:=k) (by rw[h.size];exact hk) (k - l) (by lia) i;have e1:k - (k - l)=l:=by lia
 rw[e1] at e
 split
 . rename_i c;rw[if_pos c] at e;exact Jl e
 . rename_i c;rw[if_neg c] at e
   split
   . rename_i d;rw[if_pos d] at e;exact Jl e
   . rename_i d;rw[if_neg d] at e;exact Jl e
noncomputable def Srt(lt:Nat->Nat->Bool)(p:Array Nat)(m:Nat):Prop:=∀i j,i<j->j<m->lt (K p j) (K p i)=false
noncomputable def Dsc(lt:Nat->Nat->Bool)(p:Array Nat)(m:Nat):Prop:=∀i j,i<j->j<m->lt (K p i) (K p j)=false
noncomputable def Eqv(lt:Nat->Nat->Bool)(a b:Nat):Prop:=lt a b=false/\lt b a=false
theorem Eqv.symm{a b:Nat}(h:Eqv lt a b):Eqv lt b a:=⟨h.2,h.1⟩
theorem Ord.refl(O:Ord lt)(a:Nat):Eqv lt a a:=⟨O.rfl' a,O.rfl' a⟩
theorem Ord.eqv_trans(O:Ord lt){a b c:Nat}(h:Eqv lt a b)(h':Eqv lt b c):Eqv lt a c:=⟨O.tr c b a h'.1 h.1,O.tr a b c h.2 h'.2⟩
theorem Ord.via(O:Ord lt){a b a' b':Nat}(h1:Eqv lt a a')(h2:Eqv lt b b')(h:lt a' b'=false):lt a b=false:=
 O.tr b b' a h2.symm.1 (O.tr b' a' a h h1.1)
theorem Nn(O:Ord lt){p:Array Nat}(h:Ok N p):∀(f n:Nat),1<=n->n+f<=N->Srt lt p n->
 Hs lt N (kas_asc p f n) (λm=>n<=m/\m<=n+f/\Srt lt p m/\(m<n+f->lt (K p m) (K p (m - 1))=true))
 | 0,n,_,_,s=>⟨Al _,Al _,s,λz=>absurd z (by lia)⟩
 | f+1,n,h1,h2,s=>by
  refine⟨h.below (by lia),h.below (by lia),?_⟩;cases c:lt (p.getD n 0) (p.getD (n - 1) 0) with
  | true=>exact⟨Al _,by lia,s,λ_=>c⟩
  | false=>
   show Hs lt N (kas_asc p f (n+1)) _;refine I_ (λm hm=>?_) _ (Nn O h f (n+1) (by lia) (by lia) ?_)
   . obtain⟨a1,a2,a3,a4⟩:=hm;exact⟨by lia,by lia,a3,λz=>a4 (by lia)⟩
   . intro i j hij hj;by_cases hjn:j<n
     . exact s i j hij hjn
     . obtain rfl:j=n:=by lia
       by_cases hi:i=j - 1
       . subst hi;exact c
       . exact O.tr _ (K p (j - 1)) _ (s i (j - 1) (by lia) (by lia)) c
theorem NW(O:Ord lt){p:Array Nat}(h:Ok N p){i j:Nat}(hj:j<=N)(he:∀k,i<=k->k<j->Eqv lt (K p k) (K p (j - 1)))(k:Nat):Eqv lt (K (kas_rev p i j) k) (K p k):=by
 rw[Ng h hj]
 split
 . rename_i c;exact O.eqv_trans (he _ (by lia) (by lia)) (he k c.1 c.2).symm
 . exact O.refl _
theorem Dsc.eqv(O:Ord lt){p q:Array Nat}{m:Nat}(h:Dsc lt p m)(e:∀k,Eqv lt (K q k) (K p k)):Dsc lt q m:=λi j hij hj=>O.via (e i) (e j) (h i j hij hj)
noncomputable def OL(lt:Nat->Nat->Bool)(p:Array Nat)(m q:Nat):Prop:=∀i,m - (q+1)<=i->i<m->Eqv lt (K p i) (K p (m - 1))
theorem Dsc.snoc(O:Ord lt){p:Array Nat}{n:Nat}(h1:1<=n)(s:Dsc lt p n)(c:lt (K p (n - 1)) (K p n)=false):Dsc lt p (n+1):=by
 intro i j hij hj;by_cases hjn:j<n
 . exact s i j hij hjn
 . obtain rfl:j=n:=by lia
   by_cases hi:i=j - 1
   . subst hi;exact c
   . exact O.tr _ (K p (j - 1)) _ c (s i (j - 1) (by lia) (by lia))
theorem MC(O:Ord lt):∀(f:Nat)(p:Array Nat)(n q:Nat),Ok N p->q+1<=n->n+f<=N->Dsc lt p n->OL lt p n q->
 Hs lt N (kas_desc f p n q) (λr=>Ok N r.1/\n<=r.2.1/\r.2.1<=n+f/\Dsc lt r.1 r.2.1/\OL lt r.1 r.2.1 r.2.2/\r.2.2+1<=r.2.1)
 | 0,p,n,q,h,h1,h2,s,e=>⟨h,Al _,Al _,s,e,h1⟩
 | f+1,p,n,q,h,h1,h2,s,e=>by
  refine⟨h.below (by lia),h.below (by lia),?_⟩;cases c:lt (p.getD n 0) (p.getD (n - 1) 0) with
  | true=>
   have c':lt (K p (n - 1)) (K p n)=false:=O.as _ _ c;have s':=s.snoc O (by lia) c';show Hs lt N (if q>0 then kas_desc f (kas_rev p (n - (q+1)) n) (n+1) 0 else kas_desc f p (n+1) 0) _
   have t1:∀p',OL lt p' (n+1) 0:=λp' i hi1 hi2=>by
    obtain rfl:i=n:=by lia
    exact O.refl _
   split
   . refine I_ (λm hm=>?_) _ (MC O f (kas_rev p (n - (q+1)) n) (n+1) 0 (h.rev _ _) (by lia) (by lia) (s'.eqv O (NW O h (by lia) e)) (t1 _));obtain⟨a1,a2,a3,a4⟩:=hm;exact⟨a1,by lia,by lia,a4⟩
   . refine I_ (λm hm=>?_) _ (MC O f p (n+1) 0 h (by lia) (by lia) s' (t1 _));obtain⟨a1,a2,a3,a4⟩:=hm;exact⟨a1,by lia,by lia,a4⟩
  | false=>
   show Hs lt N (KasT.ask (p.getD (n - 1) 0) (p.getD n 0) λd=>if d=true then KasT.ret (p,n,q) else kas_desc f p (n+1) (q+1)) _
   refine⟨h.below (by lia),h.below (by lia),?_⟩;cases d:lt (p.getD (n - 1) 0) (p.getD n 0) with
   | true=>exact⟨h,Al _,by show n<=n+(f+1);lia,s,e,h1⟩
   | false=>
    show Hs lt N (kas_desc f p (n+1) (q+1)) _;refine I_ (λm hm=>?_) _ (MC O f p (n+1) (q+1) h (by lia) (by lia) (s.snoc O (by lia) d) ?_)
    . obtain⟨a1,a2,a3,a4⟩:=hm;exact⟨a1,by lia,by lia,a4⟩
    . intro i hi1 hi2;have en:Eqv lt (K p (n - 1)) (K p n):=⟨d,c⟩;by_cases hin:i=n
      . subst hin;exact O.refl _
      . exact O.eqv_trans (e i (by lia) (by lia)) en
theorem QB(O:Ord lt){p:Array Nat}{n nrem:Nat}(h:Ok N p)(h1:1<=n)(h2:n<=nrem)(h3:nrem<=N)(s:Dsc lt p n):
 Hs lt N (kas_tail3 n nrem p) (λr=>Ok N r.2/\1<=r.1/\r.1<=nrem/\Srt lt r.2 r.1):=by
 unfold kas_tail3;refine K_ _ (I_ (λm hm=>?_) _ (Nn O (h.rev 0 n) (nrem - n) n h1 (by lia) ?_))
 . obtain⟨a1,a2,a3,_⟩:=hm;exact⟨h.rev 0 n,by show 1<=m;lia,by show m<=nrem;lia,a3⟩
 . intro i j hij hj;rw[Ng h (by lia),Ng h (by lia),if_pos (by lia),if_pos (by lia)];exact s _ _ (by lia) (by lia)
theorem RM(O:Ord lt){p:Array Nat}{n nrem:Nat}(h:Ok N p)(h1:1<=n)(h2:n+1<=nrem)(h3:nrem<=N)(s:Dsc lt p (n+1)):
 Hs lt N (kas_descPart n nrem p) (λr=>Ok N r.2/\1<=r.1/\r.1<=nrem/\Srt lt r.2 r.1):=by
 unfold kas_descPart;refine K_ _ (I_ (λr hr=>?_) _ (MC O (nrem - (n+1)) p (n+1) 0 h (by lia) (by lia) s λi i1 i2=>?_))
 . obtain⟨a1,a2,a3,a4,a5,a6⟩:=hr
   split
   . exact QB O (a1.rev _ _) (by lia) (by lia) h3 (a4.eqv O (NW O a1 (by lia) a5))
   . exact QB O a1 (by lia) (by lia) h3 a4
 . obtain rfl:i=n:=by lia
   exact O.refl _
theorem Yn(O:Ord lt){p:Array Nat}{nrem:Nat}(h:Ok N p)(h1:1<=nrem)(h3:nrem<=N):
 Hs lt N (kas_count nrem p) (λr=>Ok N r.2/\1<=r.1/\r.1<=nrem/\Srt lt r.2 r.1):=by
 unfold kas_count;refine K_ _ (I_ (λn hn=>?_) _ (Nn O h (nrem - 1) 1 (Al _) (by lia) λi j hij hj=>absurd hj (by lia)));obtain⟨a1,a2,a3,a4⟩:=hn
 split
 . exact⟨h,a1,by show n<=nrem;lia,a3⟩
 . rename_i ne;have hlt:n<nrem:=by
    have:n≠nrem:=λz=>ne (by rw[z];simp);lia
   have c:=a4 (by lia);have c':=O.as _ _ c
   split
   . refine⟨h.below (by lia),h.below (by lia),?_⟩;cases d:lt (p.getD 0 0) (p.getD (n - 1) 0) with
     | true=>exact⟨h,a1,by show n<=nrem;lia,a3⟩
     | false=>
      show Hs lt N (kas_descPart n nrem (kas_rev p 0 n)) _;have al:∀k,0<=k->k<n->Eqv lt (K p k) (K p (n - 1)):=by
       intro k _ hk;have u1:lt (K p (n - 1)) (K p k)=false:=by
        by_cases z:k=n - 1
        . subst z;exact O.rfl' _
        . exact a3 k (n - 1) (by lia) (by lia)
       have u0:lt (K p k) (K p 0)=false:=by
        by_cases z:k=0
        . subst z;exact O.rfl' _
        . exact a3 0 k (by lia) hk
       exact⟨O.tr _ (K p 0) _ d u0,u1⟩
      refine RM O (h.rev 0 n) a1 (by lia) h3 ?_;have dn:Dsc lt p n:=λi j hij hj=>O.via (al i (by lia) (by lia)) (al j (by lia) hj) (O.rfl' _);exact(dn.snoc O a1 c').eqv O (NW O h (by lia) al)
   . refine RM O h a1 (by lia) h3 ?_;refine Dsc.snoc O a1 (λi j hij hj=>absurd hj (by lia)) c'
theorem Oa(O:Ord lt){p:Array Nat}(h:Ok N p){k:Nat}(hk:k<N)(s:Srt lt p k):∀(f l r:Nat),l<=r->r<=k->r - l<=f->(∀i,i<l->lt (K p k) (K p i)=false)->(∀i,r<=i->i<k->lt (K p k) (K p i)=true)->
 Hs lt N (kas_place p k f l r) (λL=>L<=k/\(∀i,i<L->lt (K p k) (K p i)=false)/\∀i,L<=i->i<k->lt (K p k) (K p i)=true)
 | 0,l,r,h1,h2,h3,a,b=>by
  obtain rfl:l=r:=by lia
  exact⟨h2,a,b⟩
 | f+1,l,r,h1,h2,h3,a,b=>by
  unfold kas_place
  split
  . obtain rfl:l=r:=by lia
    exact⟨h2,a,b⟩
  . refine⟨h.below hk,h.below (by lia),?_⟩;cases c:lt (p.getD k 0) (p.getD ((l+r) / 2) 0) with
    | true=>
     show Hs lt N (kas_place p k f l ((l+r) / 2)) _;refine Oa O h hk s f l _ (by lia) (by lia) (by lia) a λi i1 i2=>?_;cases d:lt (K p k) (K p i) with
     | true=>rfl
     | false=>
      have:lt (K p k) (K p ((l+r) / 2))=false:=by
       by_cases z:i=(l+r) / 2
       . rw[<-z];exact d
       . exact O.tr _ (K p i) _ (s _ _ (by lia) i2) d
      rw[show lt (K p k) (K p ((l+r) / 2))=true from c] at this;cases this
    | false=>
     show Hs lt N (kas_place p k f ((l+r) / 2+1) r) _;refine Oa O h hk s f _ r (by lia) h2 (by lia) (λi hi=>?_) b;by_cases z:i=(l+r) / 2
     . rw[z];exact c
     . exact O.tr _ (K p ((l+r) / 2)) _ (s _ _ (by lia) (by lia)) c
theorem Pr(O:Ord lt):∀(f:Nat)(p:Array Nat)(k:Nat),Ok N p->k+f<=N->1<=k->Srt lt p k->Hs lt N (kas_bin f p k) (λq=>Ok N q/\Srt lt q (k+f))
 | 0,p,k,h,_,_,s=>⟨h,s⟩
 | f+1,p,k,h,h1,h2,s=>by
  unfold kas_bin;refine K_ _ (I_ (λl hl=>?_) _ (Oa O h (by lia) s k 0 k (by lia) (Al _) (by lia) (λi hi=>absurd hi (by lia)) λi i1 i2=>absurd i2 (by lia)));obtain⟨l1,a,b⟩:=hl;have e:k+1+f=k+(f+1):=by lia
  rw[<-e];refine Pr O f _ (k+1) (h.bub k (k - l)) (by lia) (by lia) λi j hij hj=>?_;rw[ON h (by lia) l1,ON h (by lia) l1];by_cases jl:j=l
  . rw[if_pos jl,if_neg (by lia),if_neg (by lia)];exact a i (by lia)
  . rw[if_neg jl];by_cases jm:l<j/\j<=k
    . rw[if_pos jm];by_cases il:i=l
      . rw[if_pos il];exact O.as _ _ (b (j - 1) (by lia) (by lia))
      . rw[if_neg il];by_cases im:l<i/\i<=k
        . rw[if_pos im];exact s _ _ (by lia) (by lia)
        . rw[if_neg im];exact s _ _ (by lia) (by lia)
    . rw[if_neg jm,if_neg (by lia),if_neg (by lia)];exact s _ _ hij (by lia)
theorem sort_ok(O:Ord lt)(h1:1<=N):Hs lt N (kas_sort N) (λq=>Ok N q/\Srt lt q N):=by
 unfold kas_sort;refine K_ _ (I_ (λr hr=>?_) _ (Yn O (p:=(A6 N).toArray) ⟨by simp⟩ h1 (Al _)));obtain⟨a1,a2,a3,a4⟩:=hr
 split
 . have e:max r.1 1=r.1:=by lia
   rw[e];refine I_ (λq hq=>?_) _ (Pr O (N - r.1) r.2 r.1 a1 (by lia) a2 a4);rw[show r.1+(N - r.1)=N by lia] at hq;exact hq
 . have e:r.1=N:=by lia
   rw[e] at a4;exact⟨a1,a4⟩
open PySem in
theorem sat_wp{α:Type}{cmp:Nat->Nat->(Bool->Shared->Prop)->Shared->Prop}{Q:α->Prop}{G:α->Shared->Prop}{s:Shared}(hc:∀i j C,i<N->j<N->C (lt i j) s->cmp i j C s)(hq:∀a,Q a->G a s):
 ∀t:KasT α,Hs lt N t Q->t.kasWp cmp G s
 | .ret a,h=>hq a h
 | .ask i j k,⟨h1,h2,h⟩=>hc i j _ h1 h2 (sat_wp hc hq (k _) h)
end KS
open PySem.AutoSeq1 (wpAny_loadPart')
open PySem.MeetsSeq PySem.MeetsSeq2 PySem.MeetsSeq3 PySem.SeqRoads2
noncomputable def LtAt(A:Ax)(s:Shared)(y x:Value)(b:Bool):Prop:=
 ∀(prog:AM)(w:World)(E:Value->Shared->Prop)(Q:Value->Shared->Prop),Q (.bool b) s->wpAny (model prog w) A (richCompare .Lt y x) Q E s
structure FirstAt(A:Ax)(s:Shared)(items items2:Array Value)(b:Bool)(j:Nat):Prop where
 le1:j<=items.size
 le2:j<=items2.size
 same:∀i(h1:i<items.size)(h2:i<items2.size),i<j->SeqAt.EqAt A s items[i] items2[i] true
 fin:((items.size<=j\/items2.size<=j)/\b=decide (items.size<items2.size))\/∃(h1:j<items.size)(h2:j<items2.size),SeqAt.EqAt A s items[j] items2[j] false/\LtAt A s items[j] items2[j] b
section
variable{P:AM}{w:World}
theorem zd7(l b:Addr)(items items2:Array Value)(n n2:Nat)(dd dd2:Option Addr)(sl sl2:Array (Option Value))(c:Bool)(j k:Nat):
 ∀i:Nat,j - i=k->i<=j->∀(A:Ax)(R:Result->Shared->Prop)(s:Shared),s.heap.get? l=some {cls:= .type "list",dict:=dd,data:= .seq items n,slots:=sl}->s.heap.get? b=some {cls:= .type "list",dict:=dd2,data:= .seq items2 n2,slots:=sl2}->
  FirstAt A.in1 s items items2 c j->R (.ok (.ret (.bool c))) s->
  wpAny (model P w) A.in1 (Builtin.«list.__eq__.loop» ⟨[.ref l,.ref b,rawInt i,rawInt 0],[]⟩) (λfin s'=>match fin with | .done f=>R (.ok f) s' | .again c'=>c'.quiet=true/\codeAny (model P w) A c' R s') (λe s'=>R (.error e) s') s:=by
 induction k with
 | zero=>
  intro i hk hij A R s hl hb F h;obtain rfl:i=j:=by lia
  obtain⟨hp,g,d,tk,os⟩:=s;rcases F.fin with⟨hs,hc⟩ | ⟨h1,h2,he,hlt⟩
  . wp_walk using AX hl,AX hb
    by_cases c1:i<items.size
    . have o1:items[((i:Nat):Int).toNat]?=some items[i]:=by simp[c1]
      have o2:items2[((i:Nat):Int).toNat]?=none:=by simp;lia
      rw[o1,o2]
      wp_walk using AX hl,AX hb
      show R (.ok (.ret (.bool (decide (items.size<items2.size))))) _;rw[<-hc];exact h
    . have o1:items[((i:Nat):Int).toNat]?=none:=by simp;lia
      rw[o1]
      wp_walk using AX hl,AX hb
      show R (.ok (.ret (.bool (decide (items.size<items2.size))))) _;rw[<-hc];exact h
  . wp_walk using AX hl,AX hb
    have o1:items[((i:Nat):Int).toNat]?=some items[i]:=by simp[h1]
    have o2:items2[((i:Nat):Int).toNat]?=some items2[i]:=by simp[h2]
    rw[o1,o2];refine Aa (he _ _ _ _ ?_)
    wp_walk using AX hl,AX hb
    rw[o1,o2];refine Aa (hlt _ _ _ _ ?_)
    wp_walk
    exact h
 | succ k ih=>
  intro i hk hij A R s hl hb F h;obtain⟨hp,g,d,tk,os⟩:=s
  wp_walk using AX hl,AX hb
  have f1:=F.le1;have f2:=F.le2;have lt1:i<items.size:=by lia
  have Je:i<items2.size:=by lia
  have o1:items[((i:Nat):Int).toNat]?=some items[i]:=by simp[lt1]
  have o2:items2[((i:Nat):Int).toNat]?=some items2[i]:=by simp[Je]
  have hc:((i:Int)+1)=((i+1:Nat):Int):=by push_cast;rfl
  rw[o1,o2];refine Aa (F.same i lt1 Je (by lia) _ _ _ _ ?_)
  wp_walk
  rw[hc];exact⟨C_ plain_eq_loop _,BM entry_eq_loop (by rw[B6 plain_eq_loop _];exact ih (i+1) (by lia) (by lia) A R _ hl hb F h)⟩
theorem Zi(l b:Addr)(items items2:Array Value)(n n2:Nat)(dd dd2:Option Addr)(sl sl2:Array (Option Value)){c:Bool}{j:Nat}(A:Ax)(R:Result->Shared->Prop)(s:Shared)
 (hl:s.heap.get? l=some {cls:= .type "list",dict:=dd,data:= .seq items n,slots:=sl}) (hb:s.heap.get? b=some {cls:= .type "list",dict:=dd2,data:= .seq items2 n2,slots:=sl2})
 (F:FirstAt A.in1 s items items2 c j) (h:R (.ok (.ret (.bool c))) s):
 wpAny (model P w) A.in1 (Builtin.«list.__lt__» ⟨[.ref l,.ref b],[]⟩) (λfin s'=>match fin with | .done f=>R (.ok f) s' | .again c'=>c'.quiet=true/\codeAny (model P w) A c' R s') (λe s'=>R (.error e) s') s:=by
 obtain⟨hp,g,d,tk,os⟩:=s;have f3:=AutoSeq1.sub_list_list
 wp_walk using AX hl,AX hb
 exact⟨C_ plain_eq_loop _,BM entry_eq_loop (by rw[B6 plain_eq_loop _];exact zd7 l b items items2 n n2 dd dd2 sl sl2 c j _ 0 rfl (AK _) A R _ hl hb F h)⟩
theorem RY{l b:Addr}{items items2:Array Value}{c:Bool}{j:Nat}{A:Ax}{s:Shared}{E:Value->Shared->Prop}{Q:Value->Shared->Prop}(hl:s.heap.IsList l items)(hb:s.heap.IsList b items2)(FA:FirstAt A.in1 s items items2 c j)(h:Q (.bool c) s):
 wpAny (model P w) A (call (.builtin "list.__lt__") [.ref l,.ref b]) Q E s:=by
 obtain⟨⟨c1,dd,data,sl⟩,ho,hc,n,hd⟩:=id hl;obtain⟨⟨c2,dd2,data2,sl2⟩,ho2,hc2,n2,hd2⟩:=id hb;simp only at hc hd hc2 hd2;subst hc hd hc2 hd2;refine wpAny_call (codeAny_call_builtin F.slot_list_lt.plain F.entry_list_lt (F.slot_list_lt.check _ _ _ _ _ _ _ _ ⟨_,ho,rfl⟩ (F.args_list_lt_2 _ _) ?_));exact Zi l b items items2 n n2 dd dd2 sl sl2 A (wants Q E) s ho ho2 FA h
theorem LtAt.lists{l b:Addr}{items items2:Array Value}{c:Bool}{j:Nat}{A:Ax}{s:Shared}(hl:s.heap.IsList l items)(hb:s.heap.IsList b items2)(hu:A.units<cLine)(FA:FirstAt A.in1 s items items2 c j):LtAt A s (.ref l) (.ref b) c:=by intro P w E Q h;obtain⟨o,ho,hc,_⟩:=id hl;obtain⟨o2,ho2,hc2,_⟩:=id hb;exact Ep (op:= .Lt) ⟨_,ho,hc⟩ ⟨_,ho2,hc2⟩ F.slot_list_lt (RY hl hb FA ⟨(λx=>nomatch x),h⟩) hu
theorem RX{prog:AM}{w:World}{E:Value->Shared->Prop}{Q:Value->Shared->Prop}{l b:Addr}{items items2:Array Value}{c:Bool}{j:Nat}{A:Ax}{s:Shared}(hl:s.heap.IsTuple l items)(hb:s.heap.IsTuple b items2)(FA:FirstAt A.in1 s items items2 c j)(h:Q (.bool c) s):wpAny (model prog w) A (call (.builtin "tuple.__lt__") [.ref l,.ref b]) Q E s:=by
 obtain⟨⟨c1,dd,data,sl⟩,ho,hc,n,hd⟩:=id hl;obtain⟨⟨c2,dd2,data2,sl2⟩,ho2,hc2,n2,hd2⟩:=id hb;simp only at hc hd hc2 hd2;subst hc hd hc2 hd2;refine A7 EV ⟨_,ho,rfl⟩ F.entry_tuple_lt ?_ (F.args_tuple_lt_2 _ _);obtain⟨hp,g,d,tk,os⟩:=s;have f2:=AutoSeq1.sub_tuple_tuple;have hZ:(items.toList.zip items2.toList).length=min items.size items2.size:=by simp
 have f1:=FA.le1;have f2':=FA.le2
 wp_walk using AX ho,AX ho2,CW _ (λrest b s'=>s'=⟨hp,g,d,tk,os⟩/\((b.1=none/\∃i,i<=j/\rest=(items.toList.zip items2.toList).drop i)\/(b.1=some (PySem.Fin.done (.ret (.bool c)))/\rest=[]))) _
 case turn=>
  rintro⟨y,x⟩ rest b' s' ⟨rfl,⟨hb',i,hij,hz⟩ | ⟨_,hz⟩⟩
  . have lt0:i<(items.toList.zip items2.toList).length:=by
     rcases EE i (items.toList.zip items2.toList).length with h' | h'
     . exact h'
     . rw[CI h'] at hz;cases hz
    have h1:i<items.size:=by lia
    have h2:i<items2.size:=by lia
    rw[BG lt0] at hz;injection hz with hyx hrest
    have hy:y=items[i]:=by have:=congrArg Prod.fst hyx;simpa using this
    have hx:x=items2[i]:=by have:=congrArg Prod.snd hyx;simpa using this
    subst hy hx;rcases EE i j with h3 | h3
    . refine Aa (FA.same i h1 h2 h3 _ _ _ _ ?_)
      wp_walk
      exact⟨rfl,.inl ⟨rfl,i+1,h3,hrest⟩⟩
    . obtain rfl:i=j:=by lia
      rcases FA.fin with⟨hs,hc⟩ | ⟨_,_,he,hlt⟩
      . lia
      . refine Aa (he _ _ _ _ ?_);simp only[Fu,if_true];refine Aa (BS ?_);refine Aa (hlt _ _ _ _ ?_)
        wp_walk
        exact⟨_,rfl,h⟩
  . cases hz
 case fin=>
  rintro⟨b1,b2⟩ s' ⟨rfl,⟨hb',i,hij,hz⟩ | ⟨hb',_⟩⟩
  . simp only at hb';subst hb'
    wp_walk
    refine⟨_,rfl,?_⟩;have hlen:(items.toList.zip items2.toList).length<=i:=by
     rcases EE i (items.toList.zip items2.toList).length with h' | h'
     . rw[BG h'] at hz;cases hz
     . exact h'
    rcases FA.fin with⟨hs,hc⟩ | ⟨h1,h2,_,_⟩
    . have e:Builtin.Tuple.tupleCompareSizes .Lt items.size items2.size=Value.bool c:=by rw[hc];rfl
      rw[e];exact h
    . lia
  . simp only at hb';subst hb'
    wp_walk
    exact⟨_,rfl,h⟩
 case h=>exact⟨rfl,.inl ⟨rfl,0,AK _,rfl⟩⟩
theorem LtAt.tuples{l b:Addr}{items items2:Array Value}{c:Bool}{j:Nat}{A:Ax}{s:Shared}(hl:s.heap.IsTuple l items)(hb:s.heap.IsTuple b items2)(hu:A.units<cLine)(FA:FirstAt A.in1 s items items2 c j):LtAt A s (.ref l) (.ref b) c:=by intro P w E Q h;obtain⟨o,ho,hc,_⟩:=id hl;obtain⟨o2,ho2,hc2,_⟩:=id hb;exact Ep (op:= .Lt) ⟨_,ho,hc⟩ ⟨_,ho2,hc2⟩ EV (RX hl hb FA ⟨(λx=>nomatch x),h⟩) hu
end
theorem LtAt.ints{A:Ax}{s:Shared}(a b:Int)(t u:Tok):LtAt A s (.int a t) (.int b u) (decide (a<b)):=λP w E Q h=>by exact(wpAny_lt_int (prog:=P) (w:=w) (A:=A) (E:=E) (t:=t) (u:=u) h)
theorem LtAt.bools{A:Ax}{s:Shared}(a b:Bool):LtAt A s (.bool a) (.bool b) (!a && b):=λP w E Q h=>by refine lt_bool (p:=a) (q:=b) (prog:=P) (w:=w) (A:=A) (E:=E) ?_;cases a<;>cases b<;>exact h
theorem LtAt.strs{A:Ax}{s:Shared}(a b:Str)(t u:Tok):LtAt A s (.str a t) (.str b u) (decide (a.cps.toList<b.cps.toList)):=λP w E Q h=>by exact lt_str (x:=a) (y:=b) (t:=t) (u:=u) (prog:=P) (w:=w) (A:=A) (E:=E) h
open PySem PySem.Spec PyProof.Rows PySem.W
section
variable{s:Shared}
theorem Z2{prog:AM}{w:World}{A:Ax}{E:Value->Shared->Prop}{l b:Addr}{items items2:Array Value}{c:Bool}{j:Nat}{Q:Bool->Shared->Prop}(hl:s.heap.IsList l items)(hb:s.heap.IsList b items2)(hu:A.units<cLine)(FA:FirstAt A.in1 s items items2 c j)(h:Q c s):
 wpAny (model prog w) A (keyLt' oneType' (.ref l) (.ref b)) Q E s:=by
 obtain⟨o,ho,hc,_⟩:=id hl;rw[keyLt'_oneType,oneLt'_eq];simp only[if_true];refine Aa (wpAny_cRoomFor hu ?_);refine Aa (DV ⟨o,ho,hc⟩ F.slot_list_lt (RY hl hb FA ?_));exact AR h
theorem Z1{M:Model}{h:Heap}{l:Addr}{items:Array Value}(hl:h.IsList l items):Looks M h (typeOf (.ref l)) (.type "list"):=by obtain⟨o,ho,hc,_⟩:=hl;rw[<-hc];exact(Looks.ld ho).andThen .now
end
theorem Zf{prog:AM}{w:World}{A:Ax}{s:Shared}{xs ys:Array Value}{b:Bool}{j:Nat}{Q:Bool->Shared->Prop}(F:FirstAt A s xs ys b j)(h:Q b s):∀k i,j - i=k->i<=j->KatLex prog w A false (decide (xs.size<ys.size)) Q ((xs.toList.zip ys.toList).drop i) i s:=by
 intro k
 induction k with
 | zero=>
  intro i hk hij;obtain rfl:i=j:=by lia
  rcases F.fin with⟨hs,hc⟩ | ⟨h1,h2,he,hlt⟩
  . rw[CI (by simp;lia)];exact kat_nil (hc ▸ h)
  . rw[BG (by simp;lia)];simp only[List.getElem_zip,DX];refine kat_cons (he _ _ _ _ (kat_no ?_));rw[Bool.false_and];exact kat_one _ _ (hlt _ _ _ _ h)
 | succ k ih=> intro i hk hij;have f1:=F.le1;have f2:=F.le2;rw[BG (by simp;lia)];simp only[List.getElem_zip,DX];exact kat_cons (F.same i (by lia) (by lia) (by lia) _ _ _ _ (kat_yes (ih (i+1) (by lia) (by lia))))
theorem QD{M:Model}{h:Heap}:∀ks:List Value,(∀k∈ks,∃a o xs n f,k= .ref a/\h.get? a=some o/\o.cls= .type "tuple"/\o.data= .seq xs n/\xs[0]?=some f/\Looks M h (typeOf f) (.type "tuple"))->∃fs,KatTups h ks fs/\fs.length=ks.length/\∀v∈fs,Looks M h (typeOf v) (.type "tuple")
 | [],_=>⟨[],.nil,rfl,λv hv=>by simp at hv⟩
 | k::ks,hp=>by
  obtain⟨fs,h1,h2,h3⟩:=QD ks λq hq=>hp q (Aw _ hq);obtain⟨a,o,xs,n,f,rfl,e,c,d,g,l⟩:=hp k AA;refine⟨f::fs,.cons e c d g h1,by rw[Ao,h2,Ao],λv hv=>?_⟩;rcases Ag.mp hv with z | z
  . rw[z];exact l
  . exact h3 v z
noncomputable def M5(n:Nat):Prop:=∀(prog:AM)(w:World)(A:Ax)(E:Value->Shared->Prop)(s:Shared)(κ:SortKind)(lt:Nat->Nat->Bool)(ks us:List Value),ks.length=n->us.length=n->2<=n->KS.Ord lt->
 (∀i j i' j',i<n->j<n->i'<n->j'<n->us[i]?=us[i']?->us[j]?=us[j']?->lt i j=lt i' j')->
 (∀i j,i<n->j<n->∀C:Bool->Shared->Prop,C (lt i j) s->wpAny (model prog w) A (keyLt' κ (ks.getD i Value.none) (ks.getD j Value.none)) C (λ_ _=>False) s)->
 wpAny (model prog w) A (sortRuns'.run (SortSt.mk' κ (ks.toArray.zip us.toArray) #[] 7 none)) (λr s'=>s'=s/\∃p:Array Nat,arrOf r.2=p.map (kas_item (ks.toArray.zip us.toArray))/\failedOf r.2=none/\KS.Ok n p/\KS.Srt lt p n) E s
theorem Xw{n:Nat}(h:n<64):M5 n:=by
 intro prog w A E s κ lt ks us hk hu h2 O _ hc;subst hu;have tree:(kas_sort us.length).kasWp (kas_ask prog w A κ ks) (λp s2=>s2=s/\KS.Ok us.length p/\KS.Srt lt p us.length) s:=
  KS.sat_wp (λi j C hi hj hC=>hc i j hi hj C hC) (λp hp=>⟨rfl,hp⟩) _ (KS.sort_ok O (by lia))
 exact AO (kat_run (Q:=λst' s2=>∃p:Array Nat,p.size=us.length/\arrOf st'=p.map (kas_item (ks.toArray.zip us.toArray))/\failedOf st'=none/\s2=s/\KS.Ok us.length p/\KS.Srt lt p us.length)
  hk h2 h (λp' st' s2 a1 a2 a3 a4=>⟨p',a1,a2,a3,a4⟩) tree) (λr s2 ⟨p,_,a2,a3,a4,a5,a6⟩=>⟨a4,p,a2,a3,a5,a6⟩) λ_ _ e=>e
section
variable{M:Model}{A:Ax}{E:Value->Shared->Prop}{s:Shared}
noncomputable def JP(h:Heap)(v:Value)(xs:Array Value):Prop:=∃a o n,v= .ref a/\h.get? a=some o/\o.cls= .type "tuple"/\o.data= .seq xs n
theorem Qu:∀vs:List Value,(∀v∈vs,∃xs,JP s.heap v xs)->∃fs:List (Option Value),fs.length=vs.length/\(∀(i:Nat)(v:Value),vs[i]?=some v->JP s.heap v #[]->fs[i]?=some none)/\∀Q:List (Option Value)->Shared->Prop,Q fs s->wpAny M A (vs.mapM firstOfTuple') Q E s
 | [],_=>⟨[],rfl,λi v e=>by simp at e,λQ q=>by rw[List.mapM_nil];exact Ab q⟩
 | v::vs,h=>by
  obtain⟨fs,f1,f2,f3⟩:=Qu vs λv hv=>h v (.tail _ hv);obtain⟨xs,a,o,n,rfl,ho,hc,hd⟩:=h v (.head _);refine⟨xs[0]?::fs,by rw[Ao,Ao,f1],λi x e t=>?_,λQ q=>?_⟩
  . cases i with
    | zero=> obtain rfl:Value.ref a=x:=Bg e;obtain⟨a',o',n',z,ho',_,hd'⟩:=t;cases z;rw[ho] at ho';cases ho';rw[hd] at hd';cases hd';rfl
    | succ i=>exact f2 i x e t
  . rw[List.mapM_cons];refine Aa ?_;rw[kas_first_eq];refine Aa (Looks.here (show Looks M s.heap (typeOf (.ref a)) o.cls from(Looks.ld ho).andThen .now) ?_);rw[hc,if_neg (by first | decide | simp)]
    refine Aa (listItems_at ho hd (Ab ?_));exact Aa (f3 (λbs s'=>wpAny M A (pure (xs[0]?::bs)) Q E s') (Ab q))
theorem Z0{vs:List Value}(h2:2<=vs.length)(ht:∀v∈vs,∃xs,JP s.heap v xs){i:Nat}{v:Value}(hi:vs[i]?=some v)(he:JP s.heap v #[]):
 ∃κ,(κ=general'\/κ=oneType')/\∀Q:SortKind->Shared->Prop,Q κ s->wpAny M A (keyKind' vs.toArray) Q E s:=by
 obtain⟨fs,f1,f2,f3⟩:=Qu (M:=M) (A:=A) (E:=E) (s:=s) vs ht;have hne:¬(fs.toArray.all λx=>x.isSome)=true:=by intro z;rw[List.all_toArray,A3] at z;have:=z none (AD (f2 i v hi he));cases this
 obtain⟨f0,fr,rfl⟩:∃f0 fr,fs=f0::fr:=by
  match fs,f1 with
  | [],f1=>simp at f1;lia
  | f0::fr,_=>exact⟨f0,fr,rfl⟩
 cases f0 with
 | some f=> refine⟨general',.inl rfl,λQ q=>?_⟩;rw[kat_kind_eq,E1,map_eq_pure_bind];refine Aa (Aa (f3 _ (Ab ?_)));rw[if_neg hne,if_pos (by simp)];exact Ab q
 | none=>
  refine⟨oneType',.inr rfl,λQ q=>?_⟩;obtain⟨v₁,v₂,rest,rfl⟩:∃v₁ v₂ rest,vs=v₁::v₂::rest:=by
   match vs,h2 with
   | [],h2=>simp at h2
   | [_],h2=>simp at h2
   | v₁::v₂::rest,_=>exact⟨v₁,v₂,rest,rfl⟩
  rw[kat_kind_eq,E1,map_eq_pure_bind];refine Aa (Aa (f3 _ (Ab ?_)));rw[if_neg hne,if_neg (by simp)];rw[oneTypeOnly'_eq,E1,map_eq_pure_bind];refine Aa (Aa (Aa (kas_mapM (r:=Value.type "tuple") _ (λv hv Q' hq=>?_) (Ab ?_))))
  . obtain⟨xs,a,o,n,rfl,ho,hc,hd⟩:=ht v hv;refine Looks.here (show Looks M s.heap (typeOf (.ref a)) (.type "tuple") from ?_) hq;rw[<-hc];exact(Looks.ld ho).andThen .now
  . have hall:((List.map (λ_=>Value.type "tuple") (v₁::v₂::rest)).toArray.all λx=>x==Value.type "tuple")=true:=by
     simp only[List.all_toArray,Bp,A3];intro _ _;rfl
    have h0:(List.map (λ_=>Value.type "tuple") (v₁::v₂::rest)).toArray[0]?=some (Value.type "tuple"):=by simp
    rw[h0];simp only[hall,if_true];exact Ab (Ab q)
end
theorem Zk{prog:AM}{w:World}{A:Ax}{E:Value->Shared->Prop}{s:Shared}{l b:Addr}{items items2:Array Value}{c:Bool}{j:Nat}{Q:Bool->Shared->Prop}(hl:s.heap.IsTuple l items)(hb:s.heap.IsTuple b items2)(hu:A.units<cLine)(FA:FirstAt A.in1 s items items2 c j)(h:Q c s):
 wpAny (model prog w) A (keyLt' oneType' (.ref l) (.ref b)) Q E s:=by
 obtain⟨o,ho,hc,_⟩:=id hl;rw[keyLt'_oneType,oneLt'_eq];simp only[if_true];refine Aa (wpAny_cRoomFor hu ?_);refine Aa (DV ⟨o,ho,hc⟩ EV (RX hl hb FA ?_));exact AR h
theorem TM{prog:AM}{w:World}{A:Ax}{E:Value->Shared->Prop}{s:Shared}{x y:Value}{c:Bool}{Q:Bool->Shared->Prop}(L:LtAt A s x y c)(h:Q c s):wpAny (model prog w) A (keyLt' general' x y) Q E s:=by show wpAny (model prog w) A (oneLt' false x y) Q E s;rw[oneLt'_eq];simp only[A2,if_false];exact Aa (L prog w E _ (AR h))
mutual
def Gq:D->D->Bool
 | .bl a,.bl b=>!a && b
 | .int a,.int b=>decide (a<b)
 | .str a,.str b=>decide (a.cps.toList<b.cps.toList)
 | .lst ds,.lst es=>FU ds es
 | .tup ds,.tup es=>FU ds es
 | _,_=>false
def FU:List D->List D->Bool
 | [],[]=>false
 | [],_::_=>true
 | _::_,[]=>false
 | d::ds,e::es=>if FQ d e=true then FU ds es else Gq d e
end
mutual
def GF:D->D->Bool
 | .bl _,.bl _=>true
 | .int _,.int _=>true
 | .str _,.str _=>true
 | .lst ds,.lst es=>GU ds es
 | .tup ds,.tup es=>GU ds es
 | _,_=>false
def GU:List D->List D->Bool
 | d::ds,e::es=>if FQ d e=true then GU ds es else GF d e
 | _,_=>true
end
mutual
def GL:D->List Int
 | .non=>[1]
 | .bl b=>[2,if b then 1 else 0]
 | .int i=>[2,i]
 | .str x=>3::(x.cps.toList.map (λc:Nat=>(c:Int)+1)++[0])
 | .lst ds=>4::GR ds
 | .tup ds=>5::GR ds
 | .ty _=>[6]
 | .gl _=>[7]
 | .ref _=>[8]
 | .exc _=>[9]
def GR:List D->List Int
 | []=>[0]
 | d::ds=>GL d++GR ds
end
theorem Qr:∀d:D,∃i r,GL d=i::r/\0<i
 | .non=>⟨1,[],by rw[GL],by decide⟩
 | .bl b=>⟨2,_,by rw[GL],by decide⟩
 | .int i=>⟨2,_,by rw[GL],by decide⟩
 | .str i=>⟨3,_,by rw[GL],by decide⟩
 | .lst i=>⟨4,_,by rw[GL],by decide⟩
 | .tup i=>⟨5,_,by rw[GL],by decide⟩
 | .ty _=>⟨6,[],by rw[GL],by decide⟩
 | .gl _=>⟨7,[],by rw[GL],by decide⟩
 | .ref _=>⟨8,[],by rw[GL],by decide⟩
 | .exc _=>⟨9,[],by rw[GL],by decide⟩
mutual
theorem Ny:∀d e:D,FQ d e=true->GL d=GL e
 | .non,e,h=>by cases e<;>first | rfl | (simp[FQ] at h)
 | .ty _,e,h | .gl _,e,h | .ref _,e,h | .exc _,e,h=>by simp[FQ] at h
 | .bl b,e,h=>by
  cases e<;>first | (simp[FQ] at h;done) | skip
  . simp[FQ] at h;rw[h]
  . simp[FQ] at h;rw[GL,GL,h]
 | .int b,e,h=>by
  cases e<;>first | (simp[FQ] at h;done) | skip
  . simp[FQ] at h;rw[GL,GL,h]
  . simp[FQ] at h;rw[h]
 | .str b,e,h=>by
  cases e<;>first | (simp[FQ] at h;done) | skip
  simp[FQ] at h;rw[h]
 | .lst b,e,h=>by
  cases e with
  | lst c=>rw[FQ] at h;rw[GL,GL,NA b c h]
  | _=>simp[FQ] at h
 | .tup b,e,h=>by
  cases e with
  | tup c=>rw[FQ] at h;rw[GL,GL,NA b c h]
  | _=>simp[FQ] at h
theorem NA:∀d e:List D,FT d e=true->GR d=GR e
 | [],[],_=>rfl
 | [],_::_,h=>by simp[FT] at h
 | _::_,[],h=>by simp[FT] at h
 | d::ds,e::es,h=>by rw[FT,Ae] at h;rw[GR,GR,Ny d e h.1,NA ds es h.2]
end
theorem Nv:∀(l:List Int){r r':List Int},l++r<l++r'↔r<r'
 | [],_,_=>Iff.rfl
 | a::l,r,r'=>by
  rw[AH,AH,AV];constructor
  . rintro(h | ⟨_,h⟩)
    . lia
    . exact(Nv l).mp h
  . exact λh=> .inr ⟨rfl,(Nv l).mpr h⟩
theorem Rc{α:Type}[LT α][DecidableEq α][DecidableLT α](f:α->Int)(hf:∀a b,f a<f b↔a<b)(hi:∀a b,f a=f b->a=b)(hp:∀a,0<f a):∀(x y:List α){r r':List Int},x≠y->((x.map f++0::r<y.map f++0::r')↔x<y)
 | [],[],_,_,h=>absurd rfl h
 | [],b::y,_,_,_=>by rw[Bj,A5,Aj,AH,AV];exact⟨λ_=>List.nil_lt_cons b y,λ_=> .inl (hp b)⟩
 | a::x,[],_,_,_=>by rw[Bj,A5,Aj,AH,AV];have:=hp a;refine⟨λh=>?_,λh=>absurd h (List.not_lt_nil _)⟩;rcases h with h | ⟨h,_⟩<;>lia
 | a::x,b::y,r,r',h=>by
  rw[Aj,AH,Aj,AH,AV,AV,hf];by_cases e:a=b
  . subst e;have:=Rc f hf hi hp x y (r:=r) (r':=r') λz=>h (by rw[z]);exact or_congr Iff.rfl ⟨λ⟨_,q⟩=>⟨rfl,this.mp q⟩,λ⟨_,q⟩=>⟨rfl,this.mpr q⟩⟩
  . exact or_congr Iff.rfl ⟨λ⟨q,_⟩=>absurd (hi a b q) e,λ⟨q,_⟩=>absurd q e⟩
mutual
theorem P2:∀(d e:D)(r r':List Int),FQ d e=false->GF d e=true->((GL d++r<GL e++r')↔Gq d e=true)
 | .non,e,r,r',h,k=>by cases e<;>simp[GF] at k
 | .ty _,e,r,r',h,k | .gl _,e,r,r',h,k | .ref _,e,r,r',h,k | .exc _,e,r,r',h,k=>by simp[GF] at k
 | .bl b,e,r,r',h,k=>by
  cases e<;>first | (simp[GF] at k;done) | skip
  rename_i c;cases b<;>cases c<;>simp[FQ,Gq,GL,AV] at h ⊢
 | .int b,e,r,r',h,k=>by
  cases e<;>first | (simp[GF] at k;done) | skip
  rename_i c;simp[FQ,Gq,GL,AV] at h ⊢
  lia
 | .str b,e,r,r',h,k=>by
  cases e<;>first | (simp[GF] at k;done) | skip
  rename_i c;rw[GL,GL,Gq,AH,AH,Cs,Cs,AV,decide_eq_true_iff];have ne:b.cps.toList≠c.cps.toList:=by
   intro z;have:b=c:=by cases b;cases c;simp at z;rw[z]
   rw[this] at h;simp[FQ] at h
  have:=Rc (λc:Nat=>(c:Int)+1) (λa b=>by lia) (λa b q=>by lia) (λa=>by lia) b.cps.toList c.cps.toList (r:=r) (r':=r') ne;refine⟨λq=>?_,λq=> .inr ⟨rfl,this.mpr q⟩⟩;rcases q with q | ⟨_,q⟩
  . lia
  . exact this.mp q
 | .lst b,e,r,r',h,k=>by
  cases e with
  | lst c=>
   rw[FQ] at h;rw[GF] at k;have:=NB b c r r' h k;rw[GL,GL,Gq,AH,AH,AV];refine⟨λq=>?_,λq=> .inr ⟨rfl,this.mpr q⟩⟩;rcases q with q | ⟨_,q⟩
   . lia
   . exact this.mp q
  | _=>simp[GF] at k
 | .tup b,e,r,r',h,k=>by
  cases e with
  | tup c=>
   rw[FQ] at h;rw[GF] at k;have:=NB b c r r' h k;rw[GL,GL,Gq,AH,AH,AV];refine⟨λq=>?_,λq=> .inr ⟨rfl,this.mpr q⟩⟩;rcases q with q | ⟨_,q⟩
   . lia
   . exact this.mp q
  | _=>simp[GF] at k
theorem NB:∀(d e:List D)(r r':List Int),FT d e=false->GU d e=true->((GR d++r<GR e++r')↔FU d e=true)
 | [],[],_,_,h,_=>by simp[FT] at h
 | [],e::es,r,r',_,_=>by obtain⟨i,q,z,p⟩:=Qr e;rw[GR,GR,z,FU,AH,AH,AH,AV];exact⟨λ_=>rfl,λ_=> .inl p⟩
 | d::ds,[],r,r',_,_=>by obtain⟨i,q,z,p⟩:=Qr d;rw[GR,GR,z,FU,AH,AH,AH,AV];refine⟨λh=>?_,λh=>by cases h⟩;rcases h with h | ⟨h,_⟩<;>lia
 | d::ds,e::es,r,r',h,k=>by
  rw[GR,GR,Cs,Cs,FU];rw[GU] at k;cases q:FQ d e with
  | true=> rw[FT,q,D8] at h;rw[q,if_pos rfl] at k;rw[if_pos rfl,Ny d e q,Nv];exact NB ds es r r' h k
  | false=> rw[q,if_neg (by decide)] at k;rw[if_neg (by decide)];exact P2 d e _ _ q k
end
mutual
theorem Zp:∀d e:D,FQ d e=true->Gq d e=false
 | .non,e,h=>by cases e<;>simp[FQ,Gq] at h ⊢
 | .ty _,e,h | .gl _,e,h | .ref _,e,h | .exc _,e,h=>by simp[FQ] at h
 | .bl b,e,h=>by cases e<;>simp[FQ,Gq] at h ⊢;cases b<;>simp[<-h]
 | .int b,e,h=>by cases e<;>simp[FQ,Gq] at h ⊢;lia
 | .str b,e,h=>by cases e<;>simp[FQ,Gq] at h ⊢;rw[h];exact BY _
 | .lst b,e,h=>by
  cases e with
  | lst c=>rw[FQ] at h;rw[Gq,Om b c h]
  | _=>simp[FQ] at h
 | .tup b,e,h=>by
  cases e with
  | tup c=>rw[FQ] at h;rw[Gq,Om b c h]
  | _=>simp[FQ] at h
theorem Om:∀d e:List D,FT d e=true->FU d e=false
 | [],[],_=>by rw[FU]
 | [],_::_,h=>by simp[FT] at h
 | _::_,[],h=>by simp[FT] at h
 | d::ds,e::es,h=>by rw[FT,Ae] at h;rw[FU,h.1,if_pos rfl,Om ds es h.2]
end
theorem PO{d e:D}(h:GF d e=true):Gq d e=decide (GL d<GL e):=by
 cases q:FQ d e with
 | true=> rw[Ny d e q,Zp d e q];exact(decide_eq_false (BY _)).symm
 | false=> have:=P2 d e [] [] q h;rw[A9,A9] at this;rw[A8,decide_eq_true_iff,this]
theorem YW{kd:Nat->D}(h:∀i j,GF (kd i) (kd j)=true):KS.Ord λi j=>Gq (kd i) (kd j):=by
 constructor
 . intro a b z;simp only[PO (h _ _),decide_eq_true_iff,decide_eq_false_iff_not] at z ⊢;exact List.lt_asymm z
 . intro a b c z y;simp only[PO (h _ _),decide_eq_false_iff_not] at z y ⊢;exact List.le_trans z y
theorem Rb{s:Shared}{n m:Nat}{A:Ax}(z:A.units+n<cLine)(ih:∀{m d e u v},Nw s.heap n d u->Nw s.heap m e v->GF d e=true->LtAt A s u v (Gq d e)){us:List Value}:∀{ys:List Value}{ds es:List D},Nws s.heap n ds us->Nws s.heap m es ys->GU ds es=true->∃j,FirstAt A s us.toArray ys.toArray (FU ds es) j:=by
 induction us with
 | nil=>
  intro ys ds es a b ok;cases a.e;refine⟨0,AK _,AK _,λi h1 h2 h3=>absurd h3 (DY _),.inl ⟨.inl (by simp),?_⟩⟩;cases ys with
  | nil=>cases b.e;rfl
  | cons y ys=>obtain⟨_,_,rfl,_⟩:=b.c;rfl
 | cons u us ihb=>
  intro ys ds es a b ok;obtain⟨d,ds,rfl,a,a2⟩:=a.c;cases ys with
  | nil=>cases b.e;exact⟨0,AK _,AK _,λi h1 h2 h3=>absurd h3 (DY _),.inl ⟨.inr (by simp),by rw[FU];simp⟩⟩
  | cons y ys=>
   obtain⟨e,es,rfl,a',b'⟩:=b.c;rw[GU] at ok;have he:=MX (s:=s) z a a';rw[FU];by_cases hq:FQ d e=true
   . rw[if_pos hq] at ok ⊢;rw[hq] at he;obtain⟨j,F⟩:=ihb a2 b' ok;have f1:=F.le1;have f2:=F.le2;have f3:=F.same;have f4:=F.fin;simp only[Ay] at f1 f2 f3 f4;refine⟨j+1,by simpa using f1,by simpa using f2,λi h1 h2 h3=>?_,?_⟩
     . cases i with
       | zero=>exact he
       | succ i=>simpa using f3 i (by simpa using h1) (by simpa using h2) (by lia)
     . rcases f4 with⟨hs,hc⟩ | ⟨h1,h2,k1,k2⟩
       . refine .inl ⟨by simpa using hs,?_⟩;rw[hc];simp
       . exact .inr ⟨by simpa using h1,by simpa using h2,by simpa using k1,by simpa using k2⟩
   . rw[if_neg hq] at ok ⊢;rw[ED] at hq;rw[hq] at he;exact⟨0,AK _,AK _,λi h1 h2 h3=>absurd h3 (DY _),.inr ⟨by simp,by simp,he,ih a a' ok⟩⟩
theorem Qk{s:Shared}(n:Nat):∀(A:Ax){m:Nat}{d e:D}{u v:Value},A.units+n<cLine->Nw s.heap n d u->Nw s.heap m e v->GF d e=true->LtAt A s u v (Gq d e):=by
 induction n with
 | zero=>
  intro A m d e u v z a b ok;cases a with
  | non=>cases b<;>cases ok
  | bl c=>cases b with | bl b=>exact LtAt.bools c b | _=>cases ok
  | int c t=>cases b with | int b t'=>exact LtAt.ints c b t t' | _=>cases ok
  | str c t=>cases b with | str b t'=>exact LtAt.strs c b t t' | _=>cases ok
 | succ n ih=>
  intro A m d e u v z a b ok;have go:=λ{m es ds us ys}=>Rb (s:=s) (n:=n) (m:=m) (A:=A.in1) (by rw[Bh];lia) (ih A.in1 (by rw[Bh];lia)) (ds:=ds) (es:=es) (us:=us) (ys:=ys);cases a with
  | non=>cases b<;>cases ok
  | bl c=>cases b with | bl b=>exact LtAt.bools c b | _=>cases ok
  | int c t=>cases b with | int b t'=>exact LtAt.ints c b t t' | _=>cases ok
  | str c t=>cases b with | str b t'=>exact LtAt.strs c b t t' | _=>cases ok
  | tup p r=>cases b with | tup p' r'=>obtain⟨j,F⟩:=go r r' ok;exact LtAt.tuples p p' (by lia) F | _=>cases ok
  | lst p r=>cases b with | lst p' r'=>obtain⟨j,F⟩:=go r r' ok;exact LtAt.lists p p' (by lia) F | _=>cases ok
theorem NY{s:Shared}(n:Nat)(A:Ax){m:Nat}{ds es:List D}{us ys:List Value}(z:A.units+n<cLine)(a:Nws s.heap n ds us)(b:Nws s.heap m es ys)(ok:GU ds es=true):∃j,FirstAt A s us.toArray ys.toArray (FU ds es) j:=Rb z (Qk n A z) a b ok
open PySem PySem.Spec PyProof.Rows PySem.W
noncomputable def N3(n:Nat)(kd:Nat->D):Prop:=n<2\/(∀i,i<n->∃ds,kd i= .lst ds)\/(∀i,i<n->∃d ds,kd i= .tup (.tup d::ds))\/(∀i,i<n->∃x,kd i= .str x)\/(∀i,i<n->∃ds,kd i= .tup ds)/\∃i,i<n/\kd i= .tup []
section
variable{X:Cx}{pins:List (Addr×Obj)}{vl:List (D×Value)}{σ:Sd}{H:Hx}{s:Shared}
theorem ZG{kd:Nat->D}{n i:Nat}(h:i<n):((A6 n).map kd)[i]?=some (kd i):=by simp[h]
theorem WB{A:Ax}{E:Value->Shared->Prop}{prog:AM}{w:World}{ks:List Value}{kd:Nat->D}{n:Nat}(lk:ks.length=n)(h2:2<=n)(nw:∀i,i<n->Nw s.heap 20 (kd i) (ks.getD i Value.none))(room:A.units+24<cLine)(hl:N3 n kd)(hok:∀i j,i<n->j<n->GF (kd i) (kd j)=true):
 ∃κ,(∀Q:SortKind->Shared->Prop,Q κ s->wpAny (model prog w) A (keyKind' ks.toArray) Q E s)/\∀i j,i<n->j<n->∀C:Bool->Shared->Prop,C (Gq (kd i) (kd j)) s->wpAny (model prog w) A (keyLt' κ (ks.getD i Value.none) (ks.getD j Value.none)) C (λ_ _=>False) s:=by
 have gd:∀i(hi:i<ks.length),ks.getD i Value.none=ks[i]:=λi hi=>by rw[A_,Ap hi];rfl
 have all:∀v∈ks,∃i,i<n/\v=ks.getD i Value.none:=λv hv=>by obtain⟨i,hi,rfl⟩:=F8 hv;exact⟨i,by lia,(gd i hi).symm⟩
 rcases hl with z | hl | hl | hl | ⟨hl,i0,hi0,he0⟩
 . lia
 . have key:∀i,i<n->∃l its ds,ks.getD i Value.none= .ref l/\kd i= .lst ds/\s.heap.IsList l (C0 its)/\Nws s.heap 19 ds its:=λi hi=>by
    obtain⟨ds,e⟩:=hl i hi;have:=nw i hi;rw[e] at this;generalize ks.getD i Value.none=v at this ⊢;cases this with | lst p r=>exact⟨_,_,ds,rfl,e,p,r⟩
   refine⟨oneType',λQ q=>kas_kind (T:= .type "list") (by lia) (λv hv=>?_) (by rfl) (by rfl) q,λi j hi hj C hC=>?_⟩
   . obtain⟨i,hi,rfl⟩:=all v hv;obtain⟨l,its,ds,e,_,p,_⟩:=key i hi;rw[e];exact Z1 p
   . obtain⟨l,its,ds,e,e1,p,r⟩:=key i hi;obtain⟨l',its',ds',e',e1',p',r'⟩:=key j hj;have k1:=hok i j hi hj;rw[e1,e1'] at k1 hC;rw[e,e'];rw[GF] at k1;rw[Gq] at hC;obtain⟨m,FA⟩:=NY (s:=s) 19 A.in1 (by rw[Bh];lia) r r' k1;exact Z2 p p' (by lia) FA hC
 . have key:∀i,i<n->∃l its d ds,ks.getD i Value.none= .ref l/\kd i= .tup (.tup d::ds)/\IsTup s.heap l (C0 its)/\Nws s.heap 19 (.tup d::ds) its:=λi hi=>by
    obtain⟨d,ds,e⟩:=hl i hi;have:=nw i hi;rw[e] at this;generalize ks.getD i Value.none=v at this ⊢;cases this with | tup p r=>exact⟨_,_,d,ds,rfl,e,p,r⟩
   refine⟨tuples' false,λQ q=>?_,λi j hi hj C hC=>?_⟩
   . obtain⟨fs,f1,f2,f3⟩:=QD (M:=model prog w) (h:=s.heap) ks λv hv=>by
      obtain⟨i,hi,rfl⟩:=all v hv;obtain⟨l,its,d,ds,g1,_,⟨o,e,c,m,hd⟩,r⟩:=key i hi;cases r with | @cons _ _ u0 _ us0 r1 r2=>cases r1 with | tup p2 _=> obtain⟨o2,e2,c2,_⟩:=p2;refine⟨l,o,_,m,_,g1,e,c,hd,rfl,?_⟩;rw[<-c2];exact(Looks.ld e2).andThen .now
     exact kat_kind (T:= .type "tuple") f1 (by lia) f3 (by rfl) q
   . obtain⟨l,its,d,ds,e,e1,⟨o1,g1,_,n1,d1⟩,r⟩:=key i hi;obtain⟨l',its',d',ds',e',e1',⟨o2,g2,_,n2,d2⟩,r'⟩:=key j hj;have k1:=hok i j hi hj;rw[e1,e1'] at k1 hC;rw[e,e'];rw[GF] at k1;rw[Gq] at hC;obtain⟨m,FA⟩:=NY (s:=s) 19 A (by lia) r r' k1;exact kat_lt g1 d1 g2 d2 (Zf FA hC _ 0 rfl (AK _))
 . have key:∀i,i<n->∃x t,ks.getD i Value.none= .str x t/\kd i= .str x:=λi hi=>by
    obtain⟨x,e⟩:=hl i hi;have:=nw i hi;rw[e] at this;generalize ks.getD i Value.none=v at this ⊢;cases this with | str _ t=>exact⟨x,t,rfl,e⟩
   refine⟨oneType',λQ q=>kas_kind (T:= .type "str") (by lia) (λv hv=>?_) (by rfl) (by rfl) q,λi j hi hj C hC=>?_⟩
   . obtain⟨i,hi,rfl⟩:=all v hv;obtain⟨x,t,e,_⟩:=key i hi;rw[e];exact .now
   . obtain⟨x,t,e,e1⟩:=key i hi;obtain⟨y,t',e',e1'⟩:=key j hj;rw[e1,e1',Gq] at hC;rw[e,e',keyLt'_oneType];exact oneLt_str hC
 . have key:∀i,i<n->∃l its ds,ks.getD i Value.none= .ref l/\kd i= .tup ds/\IsTup s.heap l (C0 its)/\Nws s.heap 19 ds its:=λi hi=>by
    obtain⟨ds,e⟩:=hl i hi;have:=nw i hi;rw[e] at this;generalize ks.getD i Value.none=v at this ⊢;cases this with | tup p r=>exact⟨_,_,ds,rfl,e,p,r⟩
   obtain⟨l0,its0,ds0,g0,h0,⟨o0,e0,c0,m0,d0⟩,r0⟩:=key i0 hi0;rw[he0] at h0;cases h0;cases r0;obtain⟨κ,hκ,hkd⟩:=Z0 (M:=model prog w) (A:=A) (E:=E) (s:=s) (vs:=ks) (i:=i0) (v:=ks.getD i0 Value.none) (by lia) (λv hv=>by obtain⟨i,hi,rfl⟩:=all v hv;obtain⟨l,its,ds,g1,_,⟨o,e,c,m,hd⟩,r⟩:=key i hi;exact⟨_,l,o,m,g1,e,c,hd⟩) (by rw[gd i0 (by lia)];exact Ap (by lia)) ⟨l0,o0,m0,g0,e0,c0,d0⟩;refine⟨κ,hkd,λi j hi hj C hC=>?_⟩;rcases hκ with rfl | rfl
   . exact TM (Qk (s:=s) 20 A (by lia) (nw i hi) (nw j hj) (hok i j hi hj)) hC
   . obtain⟨l,its,ds,e,e1,p,r⟩:=key i hi;obtain⟨l',its',ds',e',e1',p',r'⟩:=key j hj;have k1:=hok i j hi hj;rw[e1,e1'] at k1 hC;rw[e,e'];rw[GF] at k1;rw[Gq] at hC;obtain⟨m,FA⟩:=NY (s:=s) 19 A.in1 (by rw[Bh];lia) r r' k1;exact Zk p p' (by lia) FA hC
theorem Yc{a kS:Addr}{f:Value}{ds:List D}{us:List Value}{kd:Nat->D}{e1:Nat}{P:PySem.Fin->Shared->Prop}{E:Value->Shared->Prop}
 (I:Inv X ((kS,AW "list" #[] 0)::(a,AW "list" #[] e1)::pins) (ds.zip us++vl) σ H s) (Fa:FpOk X pins H a) (Fk:FpOk X ((a,AW "list" #[] e1)::pins) H kS) (l:ds.length=us.length) (h64:us.length<=1000) (S:M5 us.length) (hcons:∀i j:Nat,i<us.length->j<us.length->us[i]?=us[j]?->kd i=kd j)
 (turn:∀i d u,ds[i]?=some d->us[i]?=some u->∀{pins' vl' s' H'},Inv X pins' ((d,u)::vl') σ H' s'->H'.hd=H.hd->wpAny (model X.prog X.w) X.A (call f [u]) (EP X pins' vl' σ λkv h=>kv=kd i/\Le H.hd h) (λ_ _=>False) s')
 (hl:N3 us.length kd) (hdat:∀i,i<us.length->Gm 20 (kd i)=true) (room:X.A.units+24<cLine)
 (hok:∀i j,i<us.length->j<us.length->GF (kd i) (kd j)=true) (O:KS.Ord λi j=>Gq (kd i) (kd j))
 (h:∀(p:Array Nat)s' H' n,KS.Ok us.length p->KS.Srt (λi j=>Gq (kd i) (kd j)) p us.length->H'.hd=H.hd->Inv X pins (ds.zip us++vl) σ H' s'->FpOk X pins H' a->HY s'.heap a (p.toList.map λi=>us.getD i Value.none) n->P (.done (.ret .none)) s'):
 wpAny (model X.prog X.w) X.A (ksk_rest a f false us.toArray e1 (.ref kS)) P E s:=by
 have hak:a≠kS:=λz=>Fk.2.2.2.2.2 _ (Am _ (.head _)) z;unfold ksk_rest;refine Aa (BS ?_);rw[List.forIn_toArray];refine Aa (ksk_fold (λi s'=>∃H' ks e,H'.hd=H.hd/\Inv X ((kS,AW "list" (C0 ks) e)::(a,AW "list" #[] e1)::pins) (((A6 i).map kd).zip ks++(ds.zip us++vl)) σ H' s'/\ks.length=i) us 0 s
  ⟨H,[],0,rfl,I,rfl⟩ ?step ?done)
 case step=>
  rintro j x s' hx ⟨H1,ks,e,eh,I1,lk⟩;simp only[DZ] at lk I1 ⊢;have hj:j<us.length:=(Ar.mp hx).1;obtain⟨d,hd⟩:∃d,ds[j]?=some d:=⟨_,Ap (by lia)⟩;have mem:(d,x)∈ds.zip us:=by refine AD (i:=j) ?_;rw[Cu];exact⟨hd,hx⟩
  refine Aa (D9 (AO (turn j d x hd hx (I1.sub (vl':=(d,x)::(((A6 j).map kd).zip ks++(ds.zip us++vl))) (by simp;grind)) eh) (λu s2 he=>?_) λ_ _ hF=>hF.elim));obtain⟨kv,H2,I2,rfl,le⟩:=he;dsimp only;have I2:=I2.less le;have pk:=I2.pin (kS,AW "list" ks.toArray e) (Am _ (.head _));have s1:=Bs s2.heap kS (AQ (·.push u));obtain⟨c2,hc2⟩:∃c2,(s2.heap.update kS (AQ (·.push u))).get? kS=some (AW "list" (ks.toArray.push u) c2):=⟨_,get?_update_seq pk.1 (·.push u)⟩;refine Aa (listUpdate_at pk.1 rfl ?_ (by rw[sizeLine_eq,Ay];lia) (At (DL (EW ..)) (by rw[sizeLine_eq,Ay];lia)));have I3:=I2.turn1 (t':=s2.toks) (Fk.of pk.2.1) s1 hc2 nofun;refine Ab ⟨rfl,H2.to H.hd,ks++[u],c2,rfl,?_,by simp[lk]⟩;rw[show(ks++[u]).toArray=ks.toArray.push u by simp];refine I3.sub λp hp=>?_;rw[show j+1=j+1 from rfl,List.range_succ,AS,List.zip_append (by simp[lk])] at hp;simp at hp ⊢
  grind
 case done=>
  rintro s' ⟨H1,ks,e,eh,I1,lk⟩;rw[DZ] at lk I1;have pk:=I1.pin (kS,AW "list" ks.toArray e) (Am _ (.head _));have pa:=I1.pin (a,AW "list" #[] e1) (Am _ (.tail _ (.head _)));refine Aa (listItems_at pk.1 rfl ?_);have rk:=I1.vals (by simp[lk]);have nw:∀i,i<us.length->Nw s'.heap 20 (kd i) (ks.getD i Value.none):=λi hi=>by obtain⟨u,e1,r⟩:=rk.get (ZG hi);rw[A_,e1];exact Rv.nw (hdat i hi) r
  have tail:∀(st':SortSt)(p:Array Nat),arrOf st'=p.map (kas_item (ks.toArray.zip us.toArray))->failedOf st'=none->KS.Ok us.length p->KS.Srt (λi j=>Gq (kd i) (kd j)) p us.length->wpAny (model X.prog X.w) X.A (ksk_tail a false e1 (.ref kS) st') P E s':=by
   intro st' p har hf ok srt;have hout:=kat_snds lk har;have hp:=ok.size;have s1:=Bs s'.heap kS (AQ λ_=>(#[]:Array Value));have na':(s'.heap.update kS (AQ λ_=>(#[]:Array Value))).get? a=some (AW "list" #[] e1):=(s1.2 a hak).trans pa.1;have s2:=Bs (s'.heap.update kS (AQ λ_=>(#[]:Array Value))) a (AQ λ_=>(arrOf st').map (·.2));obtain⟨c1,hc1⟩:∃c1,(s'.heap.update kS (AQ λ_=>(#[]:Array Value))).get? kS=some (AW "list" #[] c1):=⟨_,get?_update_seq pk.1 λ_=>(#[]:Array Value)⟩;obtain⟨c2,hc2⟩:∃c2,((s'.heap.update kS (AQ λ_=>(#[]:Array Value))).update a (AQ λ_=>(arrOf st').map (·.2))).get? a=some (AW "list" ((arrOf st').map (·.2)) c2):=
    ⟨_,get?_update_seq na' λ_=>(arrOf st').map (·.2)⟩
   unfold ksk_tail;dsimp only;refine Aa (listUpdate_at pk.1 rfl ?_ (by rw[Ay,sizeLine_eq];lia) (AK _));refine Aa (Db ?_);refine Aa (seqEpoch_at na' rfl ?_);refine Aa (listUpdate_at na' rfl ?_ (AK _) (by
    simp only[A2,if_false];rw[hout];show(p.toList.map λi=>us.getD i Value.none).length<=_;rw[Ac,A4,hp,sizeLine_eq]
    lia))
   rw[hf];simp only[bne_self_eq_false,A2,if_false];have I3:=I1.turn1 (t':=s'.toks) (Fk.of pk.2.1) s1 hc1 nofun;have I4:Inv X ((a,AW "list" #[] e1)::pins) (((A6 us.length).map kd).zip ks++(ds.zip us++vl)) σ H1 {s' with heap:=s'.heap.update kS (AQ λ_=>(#[]:Array Value)),toks:=s'.toks}:=I3.pins_of λp hp=>I3.pin p (Am _ (.tail _ hp))
   have I5:=Inv.turn1 (t':=s'.toks) I4 (Fa.of pa.2.1) s2 hc2 nofun;have I6:Inv X pins (ds.zip us++vl) σ H1 {s' with heap:=(s'.heap.update kS (AQ λ_=>(#[]:Array Value))).update a (AQ λ_=>(arrOf st').map (·.2)),toks:=s'.toks}:=(I5.pins_of (pins':=pins) λp hp=>I5.pin p (Am _ (.tail _ hp))).sub λp hp=>Am _ hp
   rw[hout] at I6 hc2 ⊢;exact Ab (h p _ H1 c2 ok srt eh I6 (Fa.of pa.2.1) hc2)
  unfold ksk_end;dsimp only;simp only[A2,if_false];have hsz:us.toArray.size=us.length:=by simp
  by_cases h2:us.toArray.size<2
  . rw[if_pos h2,if_pos h2];refine Aa (Ab ?_);rw[StateT.run_pure];refine Aa (Ab ?_);have e1:=kas_range (ks.toArray.zip us.toArray);have e2:(ks.toArray.zip us.toArray).size=us.length:=by simp[lk]
    rw[e2] at e1;exact tail _ (A6 us.length).toArray e1.symm rfl ⟨by simp⟩ (λi j hij hj=>absurd hj (by rw[hsz] at h2;lia))
  . rw[if_neg h2,if_neg h2];rw[hsz] at h2;obtain⟨κ,hkind,hgo⟩:=WB (s:=s') (A:=X.A) (E:=E) (prog:=X.prog) (w:=X.w) lk (by lia) nw room hl hok;refine Aa (hkind _ ?_);refine Aa (AO (S _ _ _ E s' κ (λi j=>Gq (kd i) (kd j)) ks us lk rfl (by lia) O (λi j i' j' h1 h2 h3 h4 e1 e2=>?_) hgo) ?_ λ_ _ e=>e)
    . show Gq (kd i) (kd j)=Gq (kd i') (kd j');rw[hcons i i' h1 h3 e1,hcons j j' h2 h4 e2]
    . rintro⟨⟨⟩,st'⟩ s2 ⟨rfl,p,har,hf,ok,srt⟩;exact tail st' p har hf ok srt
end
noncomputable abbrev ownT:List String:=["enumerate","zip","dict_itemiterator","dict_reverseitemiterator","odict_iterator","itertools.zip_longest","itertools.pairwise"]
theorem TN{M:Model}{A:Ax}{E:Value->Shared->Prop}{s:Shared}{tg:Expr}{it:Addr}{u:Value}{o:Obj}{n:String}{vs:Array Value}{Q:Unit->Shared->Prop}(ho:s.heap.get? it=some o)(hc:o.cls= .type n)(hd:o.data= .fields vs)
 (hn:ownT.contains n=false) (hQ:Q () s):wpAny M A (DH tg (.ref it) u) Q E s:=by
 unfold DH;cases tg<;>first
  | exact Ab hQ
  | (cases u<;>first
   | exact Ab hQ
   | (refine Aa (wpAny_load ho ?_)
      rw[hc,hd];show wpAny M A (if(ownT.contains n && vs[0]?==some (rawInt _))=true then _ else _) Q E s
      rw[if_neg (by intro h;rw[hn,Bool.false_and] at h;cases h)];exact Ab hQ))
structure Turn1(G:Ev)(ds:List D)(C:Hd->Prop)(src:List (D×Value))(it:Addr)(n:String)(tn:Nat->Heap->Prop):Prop where
 own:ownT.contains n=false:=by decide
 rec':∀i h,tn i h->∃o vs,h.get? it=some o/\o.cls= .type n/\o.data= .fields vs
 at':∀i h h',tn i h->(∀o,h.get? it=some o->h'.get? it=some o)->tn i h'
 item:∀{X:Cx},X.ev=G->X.calm=true->∀{i:Nat}{pins vl s σ H}{d:D}{Q:Option Value->Shared->Prop},Inv X pins (src++vl) σ H s->tn i s.heap->C H.hd->ds[i]?=some d->(∀u h' t,Rv G s.heap H d u->tn (i+1) h'->AU it s.heap h'->Q (some u) {s with heap:=h',toks:=t})->X.W (pyNext (.ref it)) Q s
 done:∀{X:Cx},X.ev=G->X.calm=true->∀{pins vl s σ H}{Q:Option Value->Shared->Prop},Inv X pins (src++vl) σ H s->tn ds.length s.heap->C H.hd->(∀h' t,Fd it s.heap h'->Q none {s with heap:=h',toks:=t})->X.W (pyNext (.ref it)) Q s
 self:∀{P:AM}{w:World}{A:Ax}{E:Value->Shared->Prop}{s:Shared}{Q:Value->Shared->Prop},tn 0 s.heap->Q (.ref it) s->wpAny (model P w) A (pyIter (.ref it)) Q E s
theorem Turn1.turn{G:Ev}{tg:Expr}{ds:List D}{C:Hd->Prop}{src:List (D×Value)}{it:Addr}{n:String}{tn:Nat->Heap->Prop}(T:Turn1 G ds C src it n tn):Turn G tg ds C src [it] it tn where
 obj:=λi h st b hb=>by cases Af.mp hb;obtain⟨o,vs,e,_,d⟩:=T.rec' i h st;exact⟨o,e,λv z=>by rw[d] at z;cases z⟩
 keep:=λi h h' st k=>T.at' i h h' st (k it (by simp))
 item:=λ{X}eX hc{i pins vl s σ H d}I hf st c e=>by
  refine T.item eX hc I st c e λu h' t r st' sb=>⟨u,rfl,?_⟩;obtain⟨o,vs,e1,e2,e3⟩:=T.rec' _ _ st';have n:∀b,H.fr b->b≠it:=λb f z=>by cases f.2.symm.trans (z ▸ (hf it (by simp)).1.2)
  have I1:=I.turned (t':=t) hf (λb o hb e=>(sb.2 b (by simpa using hb)).trans e) λb hb=>by cases Af.mp hb;exact⟨o,e1⟩
  exact TN (s:={s with heap:=h',toks:=t}) e1 e2 e3 T.own ⟨I1.cons (eX ▸ r.im λb o e f=>⟨(sb.2 b (n b f)).trans e,f⟩),st'⟩
 done:=λ{X}eX hc{pins vl s σ H}I hf st c=>T.done eX hc I st c λh' t eb=>⟨rfl,I.ended hf λb o hb e=>eb b o (by simpa using hb) e⟩
 self:=T.self
noncomputable abbrev Kr(lo:Int)(n:Nat):List D:=(A6 n).map λi=> .int (lo+(i:Nat))
noncomputable abbrev LO(x:Str):List D:=x.cps.toList.map λc=> .str ⟨#[c]⟩
section
variable{G:Ev}{xs ks vs:List D}{C:Hd->Prop}{d:D}{a it:Addr}
theorem VK(hC:∀h,C h->seqL h d=some xs):Turn1 G xs C [(d,.ref a)] it "list_iterator" (λi h=>h.IsListIter it a i) where
 rec':=λi h ⟨o,e,c,q⟩=>⟨o,_,e,c,q⟩
 at':=λi h h' st k=>st.at k
 item:=λ{X}eX _{i pins vl s σ H x Q}I st c e q=>by subst eX;obtain⟨b,us,n,eb,p,r,_⟩:=I.seqL I.hv (hC _ c);cases eb;obtain⟨u,hu,ru⟩:=r.get e;exact Fb st ⟨_,p,rfl,n,rfl⟩ (x:=u) (by simpa using hu) λh' st' sb=>q u h' s.toks ru st' sb
 done:=λ{X}eX hc{pins vl s σ H Q}I st c q=>by subst eX;obtain⟨b,us,n,eb,p,r,_⟩:=I.seqL I.hv (hC _ c);cases eb;exact wpAny_pyNext_list_end (I.ok.hd hc) st ⟨_,p,rfl,n,rfl⟩ (by simp[r.length]) λh' eb=>q h' s.toks eb
 self:=λst h=>wpAny_pyIter_listiter st h
theorem Ud:Turn1 G xs C [(.tup xs,.ref a)] it "tuple_iterator" (λi h=>h.IsTupleIter it a i) where
 rec':=λi h ⟨o,e,c,q⟩=>⟨o,_,e,c,q⟩
 at':=λi h h' st k=>st.at k
 item:=λ{X}eX _{i pins vl s σ H x Q}I st c e q=>by subst eX;have rv:=I.hv;cases rv with | tup p r=> obtain⟨_,_,o,n,e1,e2,_,e3,_⟩:=p;obtain⟨u,hu,ru⟩:=r.get e;exact wpAny_pyNext_tuple_item st ⟨o,e1,e2,n,e3⟩ (x:=u) (by simpa using hu) λh' st' sb=>q u h' s.toks ru st' sb
 done:=λ{X}eX hc{pins vl s σ H Q}I st c q=>by subst eX;have rv:=I.hv;cases rv with | tup p r=> obtain⟨_,_,o,n,e1,e2,_,e3,_⟩:=p;exact wpAny_pyNext_tuple_end (I.ok.hd hc) st ⟨o,e1,e2,n,e3⟩ (by simp[r.length]) λh' eb=>q h' s.toks eb
 self:=λst h=>wpAny_pyIter_tupleiter st h
theorem Uc{lo:Int}{n:Nat}:Turn1 G (Kr lo n) C [] it "range_iterator" (λi h=>IsRangeIter h it (lo+(i:Nat)*1) ((n:Int) - (i:Nat)) 1) where
 rec':=λi h st=>⟨_,_,st,rfl,rfl⟩
 at':=λi h h' st k=>k _ st
 item:=λ{X}eX hc{i pins vl s σ H x Q}I st c e q=>by
  subst eX;rw[AB] at e;obtain⟨j,e1,rfl⟩:=CH.mp e;obtain⟨hi,rfl⟩:i<n/\i=j:=by grind
  refine wpAny_pyNext_range_item st (by lia) λh' st' sb=>?_;rw[Int.mul_one] at st' ⊢;exact q _ h' _ (.int _ _) (by rw[show lo+((i+1:Nat):Int)*1=lo+i+1 by lia,show(n:Int) - ((i+1:Nat):Int)=n - i - 1 by lia];exact st') sb
 done:=λ{X}eX hc{pins vl s σ H Q}I st c q=>by rw[Ac,BD] at st;exact wpAny_pyNext_range_end (I.ok.hd hc) st (by lia) λh' eb=>q h' s.toks eb
 self:=λst h=>wpAny_pyIter_rangeiter st h
theorem Pc{x:Str}{t:Tok}{n:String}(hn:n="str_ascii_iterator"\/n="str_iterator"):Turn1 G (LO x) C [] it n (λi h=>h.IsStrIter it n x t i) where
 own:=by rcases hn with rfl | rfl<;>decide
 rec':=λi h ⟨o,e,c,q⟩=>⟨o,_,e,c,q⟩
 at':=λi h h' ⟨o,e,r⟩ k=>⟨o,k o e,r⟩
 item:=λ{X}eX hc{i pins vl s σ H y Q}I st c e q=>by
  rw[AB] at e;obtain⟨z,e1,rfl⟩:=CH.mp e;rcases hn with rfl | rfl
  . exact wpAny_pyNext_ascii_item st (c:=z) (by simpa using e1) λh' st' sb=>q _ h' _ (.str _ _) st' sb
  . exact wpAny_pyNext_wide_item st (c:=z) (by simpa using e1) λh' st' sb=>q _ h' _ (.str _ _) st' sb
 done:=λ{X}eX hc{pins vl s σ H Q}I st c q=>by
  rw[Ac,A4] at st;rcases hn with rfl | rfl
  . exact wpAny_pyNext_ascii_end (I.ok.hd hc) st (by simp) λh' eb=>q h' s.toks eb
  . exact wpAny_pyNext_wide_end (I.ok.hd hc) st (by simp) λh' eb=>q h' s.toks eb
 self:=λst h=>by
  rcases hn with rfl | rfl
  . exact wpAny_pyIter_striter_ascii st h
  . exact wpAny_pyIter_striter_wide st h
end
noncomputable def KeyRow(h:Heap)(d:Addr)(us:List Value)(ep:Nat):Prop:=∃o es,h.get? d=some o/\o.ExactDict/\o.data= .dict es ep/\es.toList.map (·.key)=us
section
variable{prog:AM}{w:World}{A:Ax}{E:Value->Shared->Prop}{s:Shared}{it d:Addr}{i ep:Nat}{us:List Value}
theorem Ra{Q:Value->Shared->Prop}(hd:(d==BR)=false)(R:KeyRow s.heap d us ep)
 (q:Q (.ref s.heap.objs.size) {s with heap:=s.heap.push {cls:= .type "dict_keyiterator",data:= .fields #[.ref d,.int 0 0,.int us.length 0,.int ep 0]}}):wpAny (model prog w) A (pyIter (.ref d)) Q E s:=by
 obtain⟨o,es,h1,h2,h3,rfl⟩:=R;have ty:s.TypeIs (.ref d) "dict":=⟨o,h1,h2.1⟩;refine wpAny_pyIter_slot ty Fe (A7 Fe ty PySem.F.entry_dict_iter ?go (PySem.F.args_dict_iter_1 _))
 case go=> unfold Builtin.«dict.__iter__» Builtin.Dict.dictSlotNone;refine Aa (Aa (CO ty ?_));refine Ab ?_;show wpAny _ _ (Fv d>>=_) _ _ s;unfold Fv;rw[if_neg (by rw[hd];exact Bb)];refine Aa (Ab (Aa (Cd h1 h3 (Aa (EX h1 h3 ?_)))));refine Aa (Bd (Ab ⟨_,rfl,"dict_keyiterator",_,⟨_,Ak _ rfl,rfl⟩,Bt.lookup,?_⟩));simpa [rawInt] using q
theorem Rf{u:Value}{Q:Option Value->Shared->Prop}(hi:s.heap.IsKeyIter it d i us.length ep)(R:KeyRow s.heap d us ep)(ha:us[i]?=some u)
 (q:∀h',h'.IsKeyIter it d (i+1) us.length ep->AU it s.heap h'->Q (some u) {s with heap:=h'}):wpAny (model prog w) A (pyNext (.ref it)) Q E s:=by
 obtain⟨o,g1,g2,g3⟩:=id hi;obtain⟨od,es,h1,h2,h3,rfl⟩:=R;rw[Ac,A4] at*;have lt:i<es.size:=by have:=(Ar.mp ha).1;simpa using this
 have ky:es[i].key=u:=by simpa [lt] using ha
 unfold pyNext;refine Aa (D9 (AJ (name:=Au "__next__") hi.typeIs Bt (A7 Bt hi.typeIs Dv ?go (Dq _))))
 case go=>
  refine Aa (Ab (Aa (Aa ?_)))
  first | refine Aa (Cf hi.typeIs (Ab ?_)) | refine Aa (C8 hi.typeIs (Ab ?_))
  refine Aa (wpAny_fieldsOf g1 g3 ?_);simp only[show Ei "dict_keyiterator"=false by decide,A2,if_false];show wpAny _ _ (if(Value.ref d==Value.none)=true then _ else _) _ _ s
  rw[if_neg (by intro z;cases z)];refine Aa (Ab (Aa (Cd h1 h3 ?_)));rw[if_neg (by simp)];refine Aa (Ab (Aa (EX h1 h3 ?_)));rw[if_neg (by simp)];refine Ab ?_;simp only[show ¬((i:Int)<0) by lia,if_false,CL,E5 lt];refine Aa ?_
  first | refine Aa (Cf hi.typeIs (Ab ?_)) | refine Aa (C8 hi.typeIs (Ab ?_))
  refine Aa (wpAny_isOneOf_keyiter hi.typeIs ?_);show wpAny _ _ (setField (.ref it) 1 (rawInt ((i:Int)+1))>>=_) _ _ s;refine Aa (Ej g1 g3 (by simp) ?_);have hi':(s.heap.update it (Obj.mapFields (·.setIfInBounds 1 (rawInt ((i:Int)+1))))).IsKeyIter it d (i+1) es.size ep:=
   ⟨_,Bn _ g1 (Fw (Dr g3 _)),(Obj.cls_mapFields ..).trans g2,by rw[Dr g3];simp[rawInt]⟩
  refine Aa (Av (Aa (wpAny_isOneOf_keyiter (s:={s with heap:=s.heap.update it (Obj.mapFields (·.setIfInBounds 1 (rawInt ((i:Int)+1))))}) hi'.typeIs ?_)))
  show wpAny _ _ (pure es[i].key) _ _ _;rw[ky];exact Ab (Ab ⟨_,rfl,Ab (q _ hi' (Bs ..))⟩)
theorem Qs{Q:Option Value->Shared->Prop}(hh:A.handled=none)(hi:s.heap.IsKeyIter it d us.length us.length ep)(R:KeyRow s.heap d us ep)
 (q:∀h',Fd it s.heap h'->Q none {s with heap:=h'}):wpAny (model prog w) A (pyNext (.ref it)) Q E s:=by
 obtain⟨o,g1,g2,g3⟩:=id hi;obtain⟨od,es,h1,h2,h3,rfl⟩:=R;rw[Ac,A4] at*;unfold pyNext;refine Aa (D9 (AJ (name:=Au "__next__") hi.typeIs Bt (A7 Bt hi.typeIs Dv ?go (Dq _))))
 case go=>
  refine Aa (Ab (Aa (Aa ?_)))
  first | refine Aa (Cf hi.typeIs (Ab ?_)) | refine Aa (C8 hi.typeIs (Ab ?_))
  refine Aa (wpAny_fieldsOf g1 g3 ?_);simp only[show Ei "dict_keyiterator"=false by decide,A2,if_false];show wpAny _ _ (if(Value.ref d==Value.none)=true then _ else _) _ _ s
  rw[if_neg (by intro z;cases z)];refine Aa (Ab (Aa (Cd h1 h3 ?_)));rw[if_neg (by simp)];refine Aa (Ab (Aa (EX h1 h3 ?_)));rw[if_neg (by simp)];refine Ab ?_;simp only[show ¬((es.size:Int)<0) by lia,if_false,CL,Array.getElem?_eq_none (Al es.size)];refine Aa ?_
  first | refine Aa (Cf hi.typeIs (Ab ?_)) | refine Aa (C8 hi.typeIs (Ab ?_))
  show wpAny _ _ (setField (.ref it) 0 .none>>=_) _ _ s;refine Aa (Ej g1 g3 (by simp) ?_);show wpAny _ _ (newExc (Value.type "StopIteration") []>>=_) _ _ _;refine Aa ?_;unfold newExc newTuple;refine Aa (Bd ?_ (by size_fits));refine Aa (m:=firstArgMember _ _) (wpAny_of_eq (a:=Value.none) (by first | rfl | (simp only[firstArgMember];rfl)) ?_)
  refine Bd ?_ (by size_fits);unfold raiseNew;refine Aa (wpAny_handled ?_);rw[show A.in1.handled=none from hh];refine Aa (Ab (wpAny_throw ?_));refine Aa (DB (T:="StopIteration") (b:=true) ⟨_,Ak _ rfl,rfl⟩ isSubtype_stop ?_);exact Ab (q _ (((Bs ..).extBut.push _).push _))
end
section
variable{X:Cx}{xr:XR}{tg:Expr}{pins:List (Addr×Obj)}{vl:List (D×Value)}{σ:Sd}{H:Hx}{s:Shared}{G:Ev}{ks vs:List D}{ep:Nat}{a it:Addr}
theorem Inv.row{t:Bool}(I:Inv X pins vl σ H s)(e:H.hd a=some (.wlk t ep ks vs)):(a==BR)=false/\∃us,us.length=ks.length/\KeyRow s.heap a us ep/\Rvs X.ev s.heap H ks us:=by obtain⟨_,y,_,_,o,us,ws,e1,⟨c,es,d,k,_⟩,r,_⟩:=I.hok.at' a _ e;exact⟨y,us,r.length.symm,⟨o,es,e1,c,d,k⟩,r⟩
theorem VJ{t:Bool}:Turn1 G ks (λh=>h a=some (.wlk t ep ks vs)) [] it "dict_keyiterator" (λi h=>h.IsKeyIter it a i ks.length ep) where
 rec':=λi h ⟨o,e,c,q⟩=>⟨o,_,e,c,q⟩
 at':=λi h h' ⟨o,e,r⟩ k=>⟨o,k o e,r⟩
 item:=λ{X}eX _{i pins vl s σ H x Q}I st c e q=>by subst eX;obtain⟨_,us,l,R,r⟩:=I.row c;rw[<-l] at st;obtain⟨u,hu,ru⟩:=r.get e;exact Rf st R hu λh' st' sb=>q u h' s.toks ru (by rw[<-l];exact st') sb
 done:=λ{X}eX hc{pins vl s σ H Q}I st c q=>by subst eX;obtain⟨_,us,l,R,r⟩:=I.row c;rw[<-l] at st;exact Qs (I.ok.hd hc) st R λh' eb=>q h' s.toks eb
 self:=λst h=>wpAny_pyIter_keyiter st h
theorem Inv.iter{ob:Obj}{t:Nat}{src:List (D×Value)}{ds C n}{tn:Nat->Heap->Prop}{k}(I:Inv X pins (src++vl) σ H s)(T:Turn1 X.ev ds C src s.heap.objs.size n tn)(hf:ob.isFreed=false)(st:tn 0 (s.heap.push ob))(z:ds.length<=An)(q:k ds C H.hd):IP X pins vl σ tg k (.ref s.heap.objs.size) {s with heap:=s.heap.push ob,toks:=t}:=by
 have I1:=I.born (t':=t) [s.heap.objs.size] (λb u e=>Ad ob e) λb hb=>by cases Af.mp hb;exact⟨Al _,_,Ak _ hf⟩
 exact⟨_,src,_,tn,ds,C,_,rfl,I1,T.turn,st,λb hb=>by cases Af.mp hb;exact I.fpOk (Al _) ⟨(I.hok.fresh (Al _)).1,if_pos (by simp)⟩,z,q⟩
noncomputable def Ht(k:List D->(Hd->Prop)->Hd->Prop)(d:D)(h:Hd):Prop:=match d with
 | .lst xs=>k xs (λ_=>True) h
 | .tup xs=>k xs (λ_=>True) h
 | .str x=>x.length<=An/\k (LO x) (λ_=>True) h
 | .ref a=>(match h a with
  | some (.lst xs)=>k xs (λh'=>h' a=some (.lst xs)) h
  | some (.dct t ks vs)=>∀ep,k ks (λh'=>h' a=some (.wlk t ep ks vs)) (put h a (.wlk t ep ks vs))
  | some (.wlk t ep ks vs)=>k ks (λh'=>h' a=some (.wlk t ep ks vs)) h
  | _=>False)
 | _=>False
noncomputable def JU(T:TD):IC:=λσ hd k e=>T σ hd (Ht k) e
theorem VM{d:D}{u:Value}{k}(I:Inv X pins ((d,u)::vl) σ H s)(q:Ht k d H.hd):X.W (pyIter u) (IP X pins vl σ tg k) s:=by
 have go:∀{C:Hd->Prop}{xs},(∀h,C h->seqL h d=some xs)->C H.hd->k xs C H.hd->X.W (pyIter u) (IP X pins vl σ tg k) s:=λhC c q=>by obtain⟨a,us,n,rfl,p,r,z⟩:=I.seqL I.hv (hC _ c);exact Dx ⟨_,p,rfl,n,rfl⟩ (Inv.iter (src:=[(d,.ref a)]) I (VK hC) rfl ⟨_,Ak _ rfl,rfl,rfl⟩ (r.length ▸ z) q)
 have walk:∀{H a t ep ks vs},Inv X pins vl σ H s->H.hd a=some (.wlk t ep ks vs)->k ks (λh'=>h' a=some (.wlk t ep ks vs)) H.hd->X.W (pyIter (.ref a)) (IP X pins vl σ tg k) s:=λ{H a t ep ks vs}I e q=>by obtain⟨y,us,l,R,r⟩:=I.row e;exact Ra y R (Inv.iter (src:=[]) I VJ rfl ⟨_,Ak _ rfl,rfl,by rw[l];rfl⟩ (I.hok.at' a _ e).1 q)
 cases d with
 | lst xs=>exact go (λ_ _=>rfl) True.intro q
 | tup xs=> have rv:=I.hv;cases rv with | @tup a _ _ p r=> obtain⟨_,z,o,n,e1,e2,_,e3,_⟩:=p;exact Er ⟨o,e1,e2,n,e3⟩ (Inv.iter (src:=[(.tup xs,.ref a)]) I Ud rfl ⟨_,Ak _ rfl,rfl,rfl⟩ (r.length ▸ z) q)
 | str x=>
  cases I.hv with | str _ t=>
   cases ha:x.cps.all (· <128)
   . exact wpAny_pyIter_wide ha (Inv.iter (src:=[]) I.tl (Pc (t:=t) (.inr rfl)) rfl ⟨_,Ak _ rfl,rfl,rfl⟩ (by simpa [Str.length] using q.1) q.2)
   . exact wpAny_pyIter_ascii ha (Inv.iter (src:=[]) I.tl (Pc (t:=t) (.inl rfl)) rfl ⟨_,Ak _ rfl,rfl,rfl⟩ (by simpa [Str.length] using q.1) q.2)
 | ref a=>
  cases e:H.hd a with
  | none=>simp only[Ht,e] at q
  | some o=>
   cases o with
   | lst xs=> simp only[Ht,e] at q;exact go (C:=λh'=>h' a=some (.lst xs)) (λh c=>by simp only[seqL,c]) e q
   | dct t ks vs=> simp only[Ht,e] at q;cases I.hv.r;obtain⟨ep,ok⟩:=I.hok.at' a _ e;exact walk (t:=t) (ep:=ep) (I.tl.re e (o':= .wlk t ep ks vs) (ok.im (.re e) λ_ q=>q)) put_same (q ep)
   | wlk t ep ks vs=> simp only[Ht,e] at q;cases I.hv.r;exact walk I.tl e q
   | ins _ _=>simp only[Ht,e] at q
 | _=>exact q.elim
theorem UQ{a:Expr}{Ta:TD}(ha:DE X xr a Ta):DI X xr tg a (JU Ta):= .mk λI h hx=>FO (ha I h hx) λ_ _ ⟨_,_,I1,q⟩=>VM I1 q
noncomputable def IT(T:G6):IC:=λσ hd k e=>T σ hd (λds h=>match ds with | [.int j]=>((-16777216<=j/\j<=16777216)/\k (Kr 0 j.toNat) (λ_=>True) h) | _=>False) e
theorem Zc{lo hi:Int}{t u v:Tok}{tk:Nat}{k}(I:Inv X pins vl σ H s)(h1: -(2^62)<=lo)(h2:lo<2^62)(h3: -(2^62)<=hi)(h4:hi<2^62)(h5:(hi - lo).toNat<=An)(q:k (Kr lo (hi - lo).toNat) (λ_=>True) H.hd):
 X.W (pyIter (.ref s.heap.objs.size)) (IP X pins vl σ tg k) {s with heap:=s.heap.push {cls:= .type "range",data:= .fields #[.int lo t,.int hi u,.int 1 v]},toks:=tk}:=by
 refine wpAny_pyIter_range (IsRange.new ..) (small_one h1 h2 h3 h4) ?_;refine Inv.iter (src:=[]) (I.new (t':=tk) (ob:={cls:= .type "range",data:= .fields #[.int lo t,.int hi u,.int 1 v]}) rfl) (Uc (lo:=lo) (n:=(hi - lo).toNat)) rfl ?_ (by simpa using h5) q;show IsRangeIter _ _ (lo+((0:Nat):Int)*1) ((((hi - lo).toNat:Nat):Int) - ((0:Nat):Int)) 1;rw[show lo+((0:Nat):Int)*1=lo by simp,show(((hi - lo).toNat:Nat):Int) - ((0:Nat):Int)=Builtin.Range.rangeSize lo hi 1 by rw[rangeSize_one];split<;>lia]
 exact Ak _ rfl
variable{a b:Expr}{Tr:G6}{p pos:Pos}
theorem Zm(hg:Gl X "range")(hm:X.mg "range"=none)(ha:DA X xr [a] Tr)(hs:Ai [a] X.env=[(false,eval a X.env)]:=by rfl):DI X xr tg (.Call (.Name "range" p) [a] [] pos) (IT Tr):= .mk λI h hx=>
 Call_ (Js I hg hm boot_range (callWith_type1 (FO (ha pos I h hx) λus s1 ⟨ds,H1,I1,l,q⟩=>by
  replace q:=i1 q;obtain⟨j,rfl,q⟩:=q
  obtain⟨u,rfl⟩:=e1 l.symm;obtain⟨_,rfl⟩:=I1.hv.i;exact call_range_1 (Zc I1.tl (by lia) (by lia) (by lia) (by lia) (by rw[sizeLine_eq];lia) (by simpa using q.2))) hs rfl))
end
noncomputable def J4(n:String)(h:Heap)(i a:Addr)(k:Nat):Prop:=∃o,h.get? i=some o/\o.cls= .type n/\o.data= .fields #[.ref a,.int k 0]
structure ZipR(n:String)(sq:Heap->Addr->Array Value->Prop):Prop where
 item:∀{prog:AM}{w:World}{A:Ax}{E:Value->Shared->Prop}{s:Shared}{z a b i j t1 t2:Addr}{k1 k2:Nat}{xs ys:Array Value}{x y p q:Value}{Q:Option Value->Shared->Prop},ZipApart z a b i j t1 t2->
  IsZip s.heap z a b .none->IsPair s.heap a (.ref i) (.ref j)->IsPair s.heap b p q->J4 n s.heap i t1 k1->J4 n s.heap j t2 k2->sq s.heap t1 xs->sq s.heap t2 ys->xs[k1]?=some x->ys[k2]?=some y->
  (∀g,IsZip g z a b (rawInt s.heap.objs.size)->IsPair g b x y->J4 n g i t1 (k1+1)->J4 n g j t2 (k2+1)->IsPair g s.heap.objs.size x y->(∀c o,c≠z->c≠b->c≠i->c≠j->s.heap.get? c=some o->g.get? c=some o)->Q (some (.ref s.heap.objs.size)) {s with heap:=g})->
  wpAny (model prog w) A (pyNext (.ref z)) Q E s
 done:∀{prog:AM}{w:World}{A:Ax}{E:Value->Shared->Prop}{s:Shared}{z a b i j t1 t2:Addr}{k1 k2:Nat}{xs ys:Array Value}{p q:Value}{Q:Option Value->Shared->Prop},A.handled=none->ZipApart z a b i j t1 t2->
  IsZip s.heap z a b .none->IsPair s.heap a (.ref i) (.ref j)->IsPair s.heap b p q->J4 n s.heap i t1 k1->J4 n s.heap j t2 k2->sq s.heap t1 xs->sq s.heap t2 ys->(xs[k1]?=none\/ys[k2]?=none)->
  (∀g,(∀c o,c≠z->c≠b->c≠i->c≠j->s.heap.get? c=some o->g.get? c=some o)->Q none {s with heap:=g})->wpAny (model prog w) A (pyNext (.ref z)) Q E s
noncomputable def Jk(sq:Heap->Addr->Array Value->Prop)(G:Ev)(d:D)(a:Addr)(xs:List D)(C:Hd->Prop):Prop:=∀{X:Cx},X.ev=G->∀{pins vl σ H s},Inv X pins ((d,.ref a)::vl) σ H s->C H.hd->∃us:List Value,sq s.heap a us.toArray/\Rvs G s.heap H xs us/\us.length<=An/\∀b,H.so b->a≠b
noncomputable def Jo(xs ys:List D):List D:=List.zipWith (λa b=> .tup [a,b]) xs ys
theorem XH{xs ys:List D}{i:Nat}{d:D}(e:(Jo xs ys)[i]?=some d):∃x y,xs[i]?=some x/\ys[i]?=some y/\d= .tup [x,y]:=by
 unfold Jo at e;rw[List.getElem?_zipWith] at e
 grind
theorem Si{X:Cx}{pins:List (Addr×Obj)}{H:Hx}{z a b i j t1 t2:Addr}(nd:[z,a,b,i,j].Nodup)(n1:∀c,H.so c->t1≠c)(n2:∀c,H.so c->t2≠c)(hf:∀c∈[z,a,b,i,j],FpOk X pins H c):ZipApart z a b i j t1 t2:=by have f:=λc m=>(hf c m).1;simp only[AL,Ag,AC,or_false,not_or] at nd;obtain⟨⟨z1,z2,z3,z4⟩,⟨a2,a3,a4⟩,⟨b3,b4⟩,i4,_⟩:=nd;exact⟨Be z1,Be z2,Be z3,Be z4,a2,a3,a4,b3,b4,i4,n1 _ (f z (by simp)),n1 _ (f b (by simp)),n1 _ (f i (by simp)),n1 _ (f j (by simp)),n2 _ (f z (by simp)),n2 _ (f b (by simp)),n2 _ (f i (by simp)),n2 _ (f j (by simp))⟩
section
variable{G:Ev}{es:List Expr}{kk:Nat}{pos:Pos}{n:String}{sq:Heap->Addr->Array Value->Prop}{d1 d2:D}{t1 t2 z a b i j:Addr}{xs ys:List D}{C C':Hd->Prop}
theorem YU(R:ZipR n sq)(nd:[z,a,b,i,j].Nodup)(s1:Jk sq G d1 t1 xs C)(s2:Jk sq G d2 t2 ys C'):
 Turn G (.Tuple es kk pos) (Jo xs ys) (λh=>C h/\C' h) [(d1,.ref t1),(d2,.ref t2)] [z,a,b,i,j] z (λk h=>IsZip h z a b .none/\IsPair h a (.ref i) (.ref j)/\(∃p q,IsPair h b p q)/\J4 n h i t1 k/\J4 n h j t2 k) where
 obj:=λk h ⟨hz,ha,⟨p,q,hb⟩,⟨oi,ei,_,di⟩,⟨oj,ej,_,dj⟩⟩ c hc=>by
  simp only[Ag,AC,or_false] at hc;rcases hc with rfl | rfl | rfl | rfl | rfl
  . exact⟨_,hz,nofun⟩
  . exact⟨_,ha,nofun⟩
  . exact⟨_,hb,nofun⟩
  . exact⟨oi,ei,λv e=>by rw[di] at e;cases e⟩
  . exact⟨oj,ej,λv e=>by rw[dj] at e;cases e⟩
 keep:=λk h h' ⟨hz,ha,⟨p,q,hb⟩,⟨oi,ei,ri⟩,⟨oj,ej,rj⟩⟩ kp=>⟨kp z (by simp) _ hz,kp a (by simp) _ ha,⟨p,q,kp b (by simp) _ hb⟩,⟨oi,kp i (by simp) _ ei,ri⟩,⟨oj,kp j (by simp) _ ej,rj⟩⟩
 item:=λ{X}eX hc{k pins vl s σ H d}I hf st c e=>by
  obtain⟨hz,ha,⟨p,q,hb⟩,h1,h2⟩:=st;obtain⟨us,g1,r1,_,n1⟩:=s1 eX I c.1;obtain⟨ws,g2,r2,_,n2⟩:=s2 eX I.tl c.2;obtain⟨x,y,e1,e2,rfl⟩:=XH e;obtain⟨u,hu,ru⟩:=r1.get e1;obtain⟨w,hw,rw'⟩:=r2.get e2;have D:=Si nd n1 n2 hf;refine R.item D hz ha hb h1 h2 g1 g2 (by simpa using hu) (by simpa using hw) λg a1 a2 a3 a4 a5 a6=>⟨_,rfl,wpAny_letOwnedTupleGo_zip a1 λg' z' m'=>?_⟩;have zT:z≠s.heap.objs.size:=Ba (As hz);have up:∀c o,c≠z->g.get? c=some o->g'.get? c=some o:=λc o hc e=>m'.extBut c o hc e;obtain⟨oi,ei,ri⟩:=a3;obtain⟨oj,ej,rj⟩:=a4;have i1:=up _ _ D.i1z ei;have j1:=up _ _ D.i2z ej;have k5:∀c o,c ∉ [z,a,b,i,j]->s.heap.get? c=some o->g'.get? c=some o:=λc o hn e=>by simp only[Ag,AC,or_false,not_or] at hn;exact up c o hn.1 (a6 c o hn.1 hn.2.2.1 hn.2.2.2.1 hn.2.2.2.2 e)
  have aK:=up _ _ D.TIz (a6 a _ D.TIz D.TITO D.TIi1 D.TIi2 ha);have I1:Inv X pins _ σ H {s with heap:=g'}:=I.turned (t':=s.toks) hf k5 λc hc=>by
   simp only[Ag,AC,or_false] at hc;rcases hc with rfl | rfl | rfl | rfl | rfl
   . exact⟨_,z'⟩
   . exact⟨_,aK⟩
   . exact⟨_,up _ _ D.TOz a2⟩
   . exact⟨_,i1⟩
   . exact⟨_,j1⟩
  have im:Im s.heap H g' H:=λb o e f=>⟨k5 b o (λq=>by cases f.2.symm.trans (hf b q).1.2) e,f⟩;refine⟨I1.cons ?_,z',aK,⟨_,_,up _ _ D.TOz a2⟩,⟨oi,i1,ri⟩,⟨oj,j1,rj⟩⟩;subst eX;exact .tup (us:=[u,w]) ⟨I.hok.fresh (Al _),Lc (by simp),_,_,up _ _ zT.symm a5,rfl,rfl,rfl,nofun⟩ (.cons (ru.im im) (.cons (rw'.im im) .nil))
 done:=λ{X}eX hc{pins vl s σ H}I hf st c=>by
  obtain⟨hz,ha,⟨p,q,hb⟩,h1,h2⟩:=st;obtain⟨us,g1,r1,_,n1⟩:=s1 eX I c.1;obtain⟨ws,g2,r2,_,n2⟩:=s2 eX I.tl c.2;have l1:=r1.length;have l2:=r2.length;have l:(Jo xs ys).length=min xs.length ys.length:=by unfold Jo;rw[F9]
  refine R.done (I.ok.hd hc) (Si nd n1 n2 hf) hz ha hb h1 h2 g1 g2 ?_ λg kp=>⟨rfl,I.ended (t':=s.toks) hf λc o hn e=>?_⟩
  . simp only[List.getElem?_toArray,List.getElem?_eq_none_iff];lia
  . simp only[Ag,AC,or_false,not_or] at hn;exact kp c o hn.1 hn.2.2.1 hn.2.2.2.1 hn.2.2.2.2 e
 self:=λst h=>wpAny_pyIter_zip st.1 h
noncomputable def MP(h:Hd):D->Option (Bool×List D×(Hd->Prop))
 | .lst xs=>some (false,xs,λ_=>True)
 | .tup xs=>some (true,xs,λ_=>True)
 | .ref a=>(match h a with | some (.lst xs)=>some (false,xs,λh'=>h' a=some (.lst xs)) | _=>none)
 | _=>none
noncomputable def OF(tt:Bool)(T:G6):IC:=λσ hd k e=>T σ hd (λds h=>match ds with
 | [x,y]=>(match MP h x,MP h y with
  | some (t,xs,C),some (u,ys,C')=>t=tt/\u=tt/\k (Jo xs ys) (λh'=>C h'/\C' h') h
  | _,_=>False)
 | _=>False) e
theorem PN:∀{h d xs C},MP h d=some (true,xs,C)->C h/\(∀{G a hp H},Rv G hp H d (.ref a)->Jk EF G d a xs C)/\∀{G hp H u},Rv G hp H d u->∃a,u= .ref a
 | _,.tup ys,xs,C,e=>by cases e;refine⟨trivial,λ_ X eX pins vl σ H s I _=>?_,λr=>by cases r;exact⟨_,rfl⟩⟩;subst eX;have rv:=I.hv;cases rv with | tup p r=> obtain⟨f,z0,o,n,e1,e2,_,e3,_⟩:=p;exact⟨_,⟨o,e1,e2,n,e3⟩,r,z0,λb hb z=>by cases f.2.symm.trans (z ▸ hb.2)⟩
 | h,.ref a,xs,C,e=>by unfold MP at e;dsimp only at e;split at e<;>cases e
 | _,.lst _,_,_,e=>by cases e
 | _,.non,_,_,e | _,.bl _,_,_,e | _,.int _,_,_,e | _,.str _,_,_,e | _,.ty _,_,_,e | _,.gl _,_,_,e | _,.exc _,_,_,e=>by cases e
end
theorem Xh{X:Cx}{pins:List (Addr×Obj)}{vl:List (D×Value)}{σ:Sd}{H:Hx}{s:Shared}{es kk pos n sq d1 d2 t1 t2 xs ys}{C C':Hd->Prop}{k}{h':Heap}(I:Inv X pins ((d1,.ref t1)::(d2,.ref t2)::vl) σ H s)(R:ZipR n sq)(s1:Jk sq X.ev d1 t1 xs C)(s2:Jk sq X.ev d2 t2 ys C')
 (c:C H.hd) (q:k (Jo xs ys) (λh=>C h/\C' h) H.hd) (e5:IsZip h' (s.heap.objs.size+4) (s.heap.objs.size+2) (s.heap.objs.size+3) .none) (e3:IsPair h' (s.heap.objs.size+2) (.ref s.heap.objs.size) (.ref (s.heap.objs.size+1)))
 (e4:IsPair h' (s.heap.objs.size+3) .none .none) (e1:J4 n h' s.heap.objs.size t1 0) (e2:J4 n h' (s.heap.objs.size+1) t2 0) (k5:∀c o,s.heap.get? c=some o->h'.get? c=some o):X.W (pyIter (.ref (s.heap.objs.size+4))) (IP X pins vl σ (.Tuple es kk pos) k) {s with heap:=h'}:=by
 refine wpAny_pyIter_zip e5 ?_;obtain⟨us,_,r,z,_⟩:=s1 rfl I c;rw[<-r.length] at z;have I1:=I.born (t':=s.toks) [s.heap.objs.size+4,s.heap.objs.size+2,s.heap.objs.size+3,s.heap.objs.size,s.heap.objs.size+1] k5 λc hc=>by
  obtain⟨o1,e1,_⟩:=e1;obtain⟨o2,e2,_⟩:=e2;simp only[Ag,AC,or_false] at hc;rcases hc with rfl | rfl | rfl | rfl | rfl
  . exact⟨by lia,_,e5⟩
  . exact⟨by lia,_,e3⟩
  . exact⟨by lia,_,e4⟩
  . exact⟨by lia,_,e1⟩
  . exact⟨by lia,_,e2⟩
 exact⟨_,[(d1,.ref t1),(d2,.ref t2)],_,_,_,_,_,rfl,I1,YU R (by simp) s1 s2,⟨e5,e3,⟨_,_,e4⟩,e1,e2⟩,λc hc=>I.fpOk (by simp at hc;rcases hc with rfl | rfl | rfl | rfl | rfl<;>lia) ⟨(I.hok.fresh (by simp at hc;rcases hc with rfl | rfl | rfl | rfl | rfl<;>lia)).1,if_pos hc⟩,by unfold Jo;rw[F9];exact At (Nat.min_le_left _ _) z,q⟩
theorem Vd:AN "zip"=some (.type "zip"):=by decide+kernel
section
variable{X:Cx}{xr:XR}{es:List Expr}{kk:Nat}{tpos:Pos}{a b:Expr}{T:G6}{p pos:Pos}
end
section
variable{prog:AM}{w:World}{A:Ax}{E:Value->Shared->Prop}{s:Shared}
theorem NT{ti tp:Addr}{k:Nat}{vs:Array Value}{v:Value}{Q:Value->Shared->Prop}(hi:s.heap.IsTupleIter ti tp k)(ht:s.heap.IsTuple tp vs)(hv:vs[k]?=some v)
 (fin:∀g,g.IsTupleIter ti tp (k+1)->AU ti s.heap g->Q v {s with heap:=g}):wpAny (model prog w) A (Bf (.ref ti)) Q E s:=by
 obtain⟨oi,e1,c1,d1⟩:=id hi;obtain⟨ot,e2,_,nt,d2⟩:=ht;unfold Bf;refine Aa (AJ (name:=Au "__next__") hi.typeIs BV (A7 BV hi.typeIs D6 ?_ (D1 _)));show wpAny _ _ (field (.ref ti) 0>>=_) _ _ s;refine Aa (Bx e1 d1 (x:= .ref tp) rfl ?_);show wpAny _ _ (if(Value.ref tp==Value.none)=true then _ else _) _ _ s
 rw[if_neg (show ¬((Value.ref tp==Value.none)=true) from Bb)];show wpAny _ _ (field (.ref ti) 1>>=_) _ _ s;refine Aa (Bx e1 d1 (x:= .int k 0) rfl ?_);show wpAny _ _ (seqItems? (.ref tp)>>=_) _ _ s;refine Aa (BB e2 d2 ?_);simp only[CL,hv];refine Aa (Ej e1 d1 (by simp) (Ab ⟨v,rfl,Ab (fin _ ?_ (Bs ..))⟩));exact⟨_,Bn _ e1 (Fw (Dr d1 _)),(Obj.cls_mapFields ..).trans c1,by rw[Dr d1];simp[rawInt]⟩
theorem PP{ti tp:Addr}{k:Nat}{vs:Array Value}{Q:Value->Shared->Prop}(hh:A.handled=none)(hi:s.heap.IsTupleIter ti tp k)(ht:s.heap.IsTuple tp vs)(hv:vs[k]?=none)
 (fin:∀g e,Fd ti s.heap g->(∃o,g.get? e=some o/\o.cls= .type "StopIteration")->E (.ref e) {s with heap:=g}):wpAny (model prog w) A (Bf (.ref ti)) Q E s:=by
 obtain⟨oi,e1,c1,d1⟩:=id hi;obtain⟨ot,e2,_,nt,d2⟩:=ht;unfold Bf;refine Aa (AJ (name:=Au "__next__") hi.typeIs BV (A7 BV hi.typeIs D6 ?_ (D1 _)));show wpAny _ _ (field (.ref ti) 0>>=_) _ _ s;refine Aa (Bx e1 d1 (x:= .ref tp) rfl ?_);show wpAny _ _ (if(Value.ref tp==Value.none)=true then _ else _) _ _ s
 rw[if_neg (show ¬((Value.ref tp==Value.none)=true) from Bb)];show wpAny _ _ (field (.ref ti) 1>>=_) _ _ s;refine Aa (Bx e1 d1 (x:= .int k 0) rfl ?_);show wpAny _ _ (seqItems? (.ref tp)>>=_) _ _ s;refine Aa (BB e2 d2 ?_);simp only[CL,hv];refine Aa (BS (Aa (Ej e1 d1 (by simp) ?_)));show wpAny _ _ (newExc (.type "StopIteration") []>>=_) _ _ _;refine Aa ?_;simp only[newExc,newTuple];refine Aa (Bd ?_ (by size_fits));refine Aa (m:=firstArgMember _ _) (wpAny_of_eq (a:=Value.none) (by first | rfl | (simp only[firstArgMember];rfl)) ?_)
 refine Bd ?_ (by size_fits);simp only[raiseNew];refine Aa (wpAny_handled ?_)
 first | rw[show A.in1.handled=none from hh] | rw[hh]
 refine Aa (Ab (wpAny_throw ?_));exact fin _ _ (((Bs ..).extBut.push _).push _) ⟨_,Ak _ rfl,rfl⟩
theorem JD{h h':Heap}{t c:Addr}{vs:Array Value}(x:h.IsTuple t vs)(hs:AU c h h')(n:t≠c):h'.IsTuple t vs:=x.extBut hs.extBut n
theorem Xn{z a b i j t1 t2:Addr}{k1 k2:Nat}{xs ys:Array Value}{x y p q:Value}{Q:Value->Shared->Prop}(D:ZipApart z a b i j t1 t2)
 (hz:IsZip s.heap z a b .none) (ha:IsPair s.heap a (.ref i) (.ref j)) (hb:IsPair s.heap b p q) (h1:s.heap.IsTupleIter i t1 k1) (h2:s.heap.IsTupleIter j t2 k2) (g1:s.heap.IsTuple t1 xs) (g2:s.heap.IsTuple t2 ys) (hx:xs[k1]?=some x) (hy:ys[k2]?=some y)
 (fin:∀g,IsZip g z a b (rawInt s.heap.objs.size)->IsPair g b x y->g.IsTupleIter i t1 (k1+1)->g.IsTupleIter j t2 (k2+1)->IsPair g s.heap.objs.size x y->
  (∀c o,c≠z->c≠b->c≠i->c≠j->s.heap.get? c=some o->g.get? c=some o)->Q (.ref s.heap.objs.size) {s with heap:=g}):
 wpAny (model prog w) A (Builtin.«zip.__next__» ⟨[.ref z],[]⟩) (λr s'=>∃v,r= .done (.ret v)/\Q v s') E s:=by
 show wpAny _ _ (field (.ref z) 2>>=_) _ _ _;refine Aa (Bx hz rfl (x:= .bool false) rfl ?_);show wpAny _ _ (field (.ref z) 3>>=_) _ _ _;refine Aa (Bx hz rfl (x:= .ref a) rfl ?_);refine Aa (BB ha rfl ?_);show wpAny _ _ (BK (.ref z)>>=_) _ _ _;refine Aa ?_;unfold BK;refine Aa (Bx hz rfl (x:= .none) rfl (Ab ?_));simp only[if_true];refine Aa (BS ?_);refine Aa (Bx hz rfl (x:= .ref b) rfl ?_);refine Aa (Cn hz (by simp) λw1 z1 m1=>?_)
 replace z1:IsZip w1 z a b .ellipsis:=z1
 refine Aa ?_;simp only[List.zipIdx_cons,List.zipIdx_nil,DJ,Eg];refine Aa (Aa (Ey ?_));show wpAny _ _ (Bf (.ref i)>>=_) _ _ _;refine Aa (NT (h1.extBut m1.extBut D.i1z) (JD g1 m1 D.l1z) hx λw2 i2 m2=>Ab ?_);have b2:IsPair w2 b p q:=m2.extBut _ _ D.TOi1 (m1.extBut _ _ D.TOz hb);refine Aa (BB b2 rfl ?_);refine Aa (D_ b2 λw3 b3 m3=>?_)
 replace b3:IsPair w3 b x q:=b3
 refine Aa (Db (Ab ?_));refine Aa (Aa (Ey ?_));show wpAny _ _ (Bf (.ref j)>>=_) _ _ _;refine Aa (NT (((h2.extBut m1.extBut D.i2z).extBut m2.extBut D.i12.symm).extBut m3.extBut D.TOi2.symm) (JD (JD (JD g2 m1 D.l2z) m2 D.l2i1) m3 D.l2TO) hy λw4 j4 m4=>Ab ?_);have b4:IsPair w4 b x q:=m4.extBut _ _ D.TOi2 b3;refine Aa (BB b4 rfl ?_);refine Aa (D_ b4 λw5 b5 m5=>?_)
 replace b5:IsPair w5 b x y:=b5
 refine Aa (Db (Ab (Ab ?_)));refine Aa (BB b5 rfl ?_);refine Aa (wpAny_newTuple ?_);have sz:w5.objs.size=s.heap.objs.size:=by rw[m5.1,m4.1,m3.1,m2.1,m1.1]
 have z5:IsZip w5 z a b .ellipsis:=m5.extBut _ _ D.TOz.symm (m4.extBut _ _ D.i2z.symm (m3.extBut _ _ D.TOz.symm (m2.extBut _ _ D.i1z.symm z1)));have k5:∀c o,c≠z->c≠b->c≠i->c≠j->s.heap.get? c=some o->w5.get? c=some o:=λc o c1 c2 c3 c4 e=> m5.extBut _ _ c2 (m4.extBut _ _ c4 (m3.extBut _ _ c2 (m2.extBut _ _ c3 (m1.extBut _ _ c1 e))));have i5:w5.IsTupleIter i t1 (k1+1):=((i2.extBut m3.extBut D.TOi1.symm).extBut m4.extBut D.i12).extBut m5.extBut D.TOi1.symm;have j5:w5.IsTupleIter j t2 (k2+1):=j4.extBut m5.extBut D.TOi2.symm;have zlt:z<w5.objs.size:=As z5;show wpAny _ _ (Ds (.ref z) (.ref w5.objs.size)>>=_) _ _ _;refine Aa ?_;unfold Ds;have z6:IsZip (w5.push {cls:= .type "tuple",data:= .seq #[x,y]}) z a b .ellipsis:=Ad _ z5;refine Aa (Cn z6 (by simp) λw7 z7 m7=>?_)
 replace z7:IsZip w7 z a b (rawInt w5.objs.size):=z7
 refine Cn z7 (by simp) λw8 z8 m8=>?_
 replace z8:IsZip w8 z a b (rawInt w5.objs.size):=z8
 have up:∀c o,c≠z->w5.get? c=some o->w8.get? c=some o:=λc o c1 e=>m8.extBut _ _ c1 (m7.extBut _ _ c1 (Ad _ e));have t8:IsPair w8 w5.objs.size x y:=m8.extBut _ _ (Nat.ne_of_gt zlt) (m7.extBut _ _ (Nat.ne_of_gt zlt) (Ak _ rfl));rw[sz] at z8 t8;refine Ab ⟨_,rfl,?_⟩;show Q (.ref w5.objs.size) _;rw[sz];obtain⟨oi,ei,ri⟩:=i5;obtain⟨oj,ej,rj⟩:=j5;exact fin w8 z8 (up _ _ D.TOz b5) ⟨oi,up _ oi D.i1z ei,ri⟩ ⟨oj,up _ oj D.i2z ej,rj⟩ t8 λc o c1 c2 c3 c4 e=>up c o c1 (k5 c o c1 c2 c3 c4 e)
theorem Xi{z a b i j t1 t2:Addr}{k1 k2:Nat}{xs ys:Array Value}{p q:Value}{Q:Fin->Shared->Prop}(hh:A.handled=none)(D:ZipApart z a b i j t1 t2)
 (hz:IsZip s.heap z a b .none) (ha:IsPair s.heap a (.ref i) (.ref j)) (hb:IsPair s.heap b p q) (h1:s.heap.IsTupleIter i t1 k1) (h2:s.heap.IsTupleIter j t2 k2) (g1:s.heap.IsTuple t1 xs) (g2:s.heap.IsTuple t2 ys) (hend:xs[k1]?=none\/ys[k2]?=none)
 (fin:∀g e,(∀c o,c≠z->c≠b->c≠i->c≠j->s.heap.get? c=some o->g.get? c=some o)->(∃o,g.get? e=some o/\o.cls= .type "StopIteration")->E (.ref e) {s with heap:=g}):
 wpAny (model prog w) A (Builtin.«zip.__next__» ⟨[.ref z],[]⟩) Q E s:=by
 show wpAny _ _ (field (.ref z) 2>>=_) _ _ _;refine Aa (Bx hz rfl (x:= .bool false) rfl ?_);show wpAny _ _ (field (.ref z) 3>>=_) _ _ _;refine Aa (Bx hz rfl (x:= .ref a) rfl ?_);refine Aa (BB ha rfl ?_);show wpAny _ _ (BK (.ref z)>>=_) _ _ _;refine Aa ?_;unfold BK;refine Aa (Bx hz rfl (x:= .none) rfl (Ab ?_));simp only[if_true];refine Aa (BS ?_);refine Aa (Bx hz rfl (x:= .ref b) rfl ?_);refine Aa (Cn hz (by simp) λw1 z1 m1=>?_)
 replace z1:IsZip w1 z a b .ellipsis:=z1
 refine Aa ?_;simp only[List.zipIdx_cons,List.zipIdx_nil,DJ,Eg];refine Aa (Aa (Ey ?_));show wpAny _ _ (Bf (.ref i)>>=_) _ _ _;cases hx:xs[k1]? with
 | none=>
  refine Aa (PP hh (h1.extBut m1.extBut D.i1z) (JD g1 m1 D.l1z) hx λw2 e m2 he=>?_);obtain⟨oe,e1,e2⟩:=he;have z2:IsZip w2 z a b .ellipsis:=m2 _ _ D.i1z.symm z1;have ez:e≠z:=λu=>by subst u;rw[z2] at e1;cases e1;simp at e2
  exact Cn z2 (by simp) λw3 _ m3=>fin w3 e (λc o c1 _ c3 _ u=>m3.extBut _ _ c1 (m2 _ _ c3 (m1.extBut _ _ c1 u))) ⟨oe,m3.extBut _ _ ez e1,e2⟩
 | some x=>
  have hy:ys[k2]?=none:=by
   rcases hend with u | u
   . rw[hx] at u;cases u
   . exact u
  refine Aa (NT (h1.extBut m1.extBut D.i1z) (JD g1 m1 D.l1z) hx λw2 i2 m2=>Ab ?_);have b2:IsPair w2 b p q:=m2.extBut _ _ D.TOi1 (m1.extBut _ _ D.TOz hb);refine Aa (BB b2 rfl ?_);refine Aa (D_ b2 λw3 b3 m3=>?_);refine Aa (Db (Ab ?_));refine Aa (Aa (Ey ?_));show wpAny _ _ (Bf (.ref j)>>=_) _ _ _;refine Aa (PP hh (((h2.extBut m1.extBut D.i2z).extBut m2.extBut D.i12.symm).extBut m3.extBut D.TOi2.symm) (JD (JD (JD g2 m1 D.l2z) m2 D.l2i1) m3 D.l2TO) hy λw4 e m4 he=>?_);obtain⟨oe,e1,e2⟩:=he;have z4:IsZip w4 z a b .ellipsis:=m4 _ _ D.i2z.symm (m3.extBut _ _ D.TOz.symm (m2.extBut _ _ D.i1z.symm z1));have ez:e≠z:=λu=>by subst u;rw[z4] at e1;cases e1;simp at e2
  exact Cn z4 (by simp) λw5 _ m5=>fin w5 e (λc o c1 c2 c3 c4 u=>m5.extBut _ _ c1 (m4 _ _ c4 (m3.extBut _ _ c2 (m2.extBut _ _ c3 (m1.extBut _ _ c1 u))))) ⟨oe,m5.extBut _ _ ez e1,e2⟩
end
theorem Yw:ZipR "tuple_iterator" EF where
 item:=λD hz ha hb h1 h2 g1 g2 hx hy fin=>by unfold pyNext;exact Aa (D9 (AJ (name:=Au "__next__") ⟨_,hz,rfl⟩ CS (A7 CS ⟨_,hz,rfl⟩ Fg (Xn D hz ha hb h1 h2 g1 g2 hx hy λg a1 a2 a3 a4 a5 a6=>Ab (fin g a1 a2 a3 a4 a5 a6)) (EO _))))
 done:=λhh D hz ha hb h1 h2 g1 g2 hend fin=>by unfold pyNext;refine Aa (D9 (AJ (name:=Au "__next__") ⟨_,hz,rfl⟩ CS (A7 CS ⟨_,hz,rfl⟩ Fg (Xi hh D hz ha hb h1 h2 g1 g2 hend λg e kp ⟨o,ho,hc⟩=>?_) (EO _))));exact Aa (DB (T:="StopIteration") (b:=true) ⟨o,ho,hc⟩ isSubtype_stop (Ab (fin g kp)))
noncomputable abbrev Mm(h:Heap)(t:Addr):Heap:=h.push {cls:= .type "tuple_iterator",data:= .fields #[.ref t,.int 0 0]}
noncomputable abbrev Ml(h:Heap)(t u:Addr):Heap:=(Mm h t).push {cls:= .type "tuple_iterator",data:= .fields #[.ref u,.int 0 0]}
noncomputable abbrev Mj(h:Heap)(t u:Addr):Heap:=(Ml h t u).push {cls:= .type "tuple",data:= .seq #[.ref h.objs.size,.ref (Mm h t).objs.size]}
noncomputable abbrev Mi(h:Heap)(t u:Addr):Heap:=(Mj h t u).push {cls:= .type "tuple",data:= .seq #[.none,.none]}
noncomputable abbrev KG(h:Heap)(t u:Addr):Heap:=(Mi h t u).push {cls:= .type "zip",data:= .fields #[.none,.bool false,.bool false,.ref (Ml h t u).objs.size,.ref (Mj h t u).objs.size]}
theorem Xj(t u:Addr)(xs ys:Array Value):Meets (Builtin.«zip.__new__» ⟨[.type "zip",.ref t,.ref u],[]⟩) (λ_ R s=>s.heap.IsTuple t xs/\s.heap.IsTuple u ys/\
 R (.ok (.ret (.ref (Mi s.heap t u).objs.size))) {s with heap:=KG s.heap t u}):=
 .of_wp λprog w A R s h=>by
  obtain⟨hp,g,d,tk,os⟩:=s;obtain⟨g1,g2,h⟩:=h;have f0:=sub_zip;have f1:EF (Shared.heap ⟨hp,g,d,tk,os⟩) t xs:=g1;have f2:EF (Shared.heap ⟨hp.push {cls:= .type "tuple_iterator",data:= .fields #[.ref t,.int 0 0]},g,d,tk,os⟩) u ys:=Heap.IsTuple.push g2 _
  wp_walk using Er f1,Er f2
  exact⟨_,rfl,h⟩
section
variable{X:Cx}{xr:XR}{es:List Expr}{kk:Nat}{tpos:Pos}{a b:Expr}{T:G6}{p pos:Pos}
theorem WX(hg:Gl X "zip")(hm:X.mg "zip"=none)(ha:DA X xr [a,b] T)(he:Ai [a,b] X.env=(false,eval a X.env)::Ai [b] X.env:=by rfl)(hpl:(backTo pos (Ai [b] X.env)).any (·.1)=false:=by rfl):
 DI X xr (.Tuple es kk tpos) (.Call (.Name "zip" p) [a,b] [] pos) (OF true T):= .mk λ{_ _ _ _ _ k _}I h hx=>Bq (Js I hg hm Vd (callWith_type1 (FO (ha pos I h hx) λus s1 ⟨ds,H1,I1,l,q⟩=>by
 . replace q:=l2 q;obtain⟨x,y,rfl,q⟩:=q
   obtain⟨u,w,rfl⟩:=e2 l.symm
   split at q<;>try exact q.elim
   rename_i t1 xs C t2 ys C' e1 e2;obtain⟨rfl,rfl,q⟩:=q;obtain⟨c1,z1,r1⟩:=PN e1;obtain⟨c2,z2,r2⟩:=PN e2;obtain⟨t,rfl⟩:=r1 I1.hv;obtain⟨u,rfl⟩:=r2 I1.tl.hv;obtain⟨us,g1,_⟩:=z1 I1.hv rfl I1 c1;obtain⟨ws,g2,_⟩:=z2 I1.tl.hv rfl I1.tl c2;refine callType_new PySem.F.called_zip (by decide) (PySem.F.typeCall_zip_2 _ _) (PySem.F.newCall_zip_2 _ _) (λobj=>PySem.F.args_object_init_3 obj _ _) PySem.F.entry_zip_new (Xj t u us.toArray ws.toArray) ⟨g1,g2,?_⟩;have y1:(Mm s1.heap t).objs.size=s1.heap.objs.size+1:=Bu ..;have y2:(Ml s1.heap t u).objs.size=s1.heap.objs.size+2:=by rw[Bu,y1]
   have y3:(Mj s1.heap t u).objs.size=s1.heap.objs.size+3:=by rw[Bu,y2]
   have y4:(Mi s1.heap t u).objs.size=s1.heap.objs.size+4:=by rw[Bu,y3]
   have e5:(KG s1.heap t u).get? (Mi s1.heap t u).objs.size=some _:=Ak _ rfl;have e4:(KG s1.heap t u).get? (Mj s1.heap t u).objs.size=some _:=Ad _ (Ak _ rfl);have e3:(KG s1.heap t u).get? (Ml s1.heap t u).objs.size=some _:=Ad _ (Ad _ (Ak _ rfl));have e2:(KG s1.heap t u).get? (Mm s1.heap t).objs.size=some _:=Ad _ (Ad _ (Ad _ (Ak _ rfl)));have e1:(KG s1.heap t u).get? s1.heap.objs.size=some _:=Ad _ (Ad _ (Ad _ (Ad _ (Ak _ rfl))));rw[y4,y2,y3] at e5;rw[y3] at e4;rw[y2,y1] at e3;rw[y1] at e2;rw[y4];exact⟨⟨_,e5,rfl⟩,Xh I1 Yw (z1 I1.hv) (z2 I1.tl.hv) c1 q e5 e3 e4 ⟨_,e1,rfl,rfl⟩ ⟨_,e2,rfl,rfl⟩ λc o e=>Ad _ (Ad _ (Ad _ (Ad _ (Ad _ e))))⟩) he hpl) (by decide) (by decide))
end
open PySem PySem.Spec PyProof.Rows PySem.W
section
variable{prog:AM}{w:World}{A:Ax}{E:Value->Shared->Prop}{s:Shared}{d:Addr}{us:List Value}{ep:Nat}
theorem KeyRow.at'{h h':Heap}(R:KeyRow h d us ep)(k:∀o,h.get? d=some o->h'.get? d=some o):KeyRow h' d us ep:=let⟨o,es,e,r⟩:=R;⟨o,es,k o e,r⟩
theorem KeyRow.typeIs(R:KeyRow s.heap d us ep):s.TypeIs (.ref d) "dict":=let⟨o,_,e,c,_⟩:=R;⟨o,e,c.1⟩
theorem ZQ(hh:A.handled=none)(I d:Addr)(hne:d≠I)(us:List Value)(ep:Nat):
 Walks prog w A I [I,d] [I] us.length (λi v=>us[i]?=some v) (λi h=>h.IsKeyIter I d i us.length ep/\KeyRow h d us ep) where
 sub:=λb hb=>by simp at hb;simp[hb]
 frame:=λ_ _ _ st hk=>⟨st.1.at λo e=>hk I (by simp) o e,st.2.at' λo e=>hk d (by simp) o e⟩
 item:=λi s Q E hi st hQ=>by
  have hx:us[i]?=some us[i]:=by simp
  refine Rf st.1 st.2 hx λh' hit' hs'=>?_;exact hQ us[i] h' s.toks hx ⟨hit',st.2.at' λo e=>hs'.extBut d o hne e⟩ λb o hb e=>hs'.extBut b o (λh=>hb (by simp[h])) e
 done:=λs Q E st hQ=>Qs hh st.1 st.2 λh' he'=>hQ h' s.toks λb o hb e=>he' b o (λh=>hb (by simp[h])) e
 self:=λ_ _ _ _ st hQ=>wpAny_pyIter_keyiter st.1 hQ
theorem Zs{a:Addr}{Q:Bool->Shared->Prop}(hT:s.TypeIs (.ref a) "dict")(h:Q false s):wpAny (model prog w) A (Es (.ref a)) Q E s:=by
 unfold Es;refine Aa (Bw hT (show typeLookup (.type "dict") "__len__"=pure (some (.builtin "dict.__len__")) by rw[typeLookup_type,builtinLookup_eq_fast];kernel_rfl) ?_);dsimp only;generalize hid:("dict.__len__":String)=id0;rw[show splitId id0=some ("dict","__len__") from by subst hid;decide+kernel]
 subst hid;dsimp only;refine Aa (DB (b:=true) hT (by rw[isSubtype_type];kernel_rfl) ?_);simp only[Cr,A2,if_false];refine Aa (Do hT (Ab h))
theorem Zx{R:Result->Shared->Prop}{a:Addr}(hh:A.handled=none)(hs:(a==BR)=false)(D:KeyRow s.heap a us ep)(hz:us.length<=An)(S:Addr)(res:Value)(c₀:Nat)(hS:s.heap.get? S=some {cls:= .type "list",data:= .seq #[] c₀})
 (hR:∀h' tk c',(∀b o,b≠S->s.heap.get? b=some o->h'.get? b=some o)->HY h' S us c'->R (.ok (.ret res)) {s with heap:=h',toks:=tk}):
 wpAny (model prog w) A.in1 (CU (.ref S) (.ref a) res)
  (λfin s'=>match fin with | .done f=>R (.ok f) s' | .again c'=>c'.quiet=true/\codeAny (model prog w) A c' R s') (λe s'=>R (.error e) s') s:=by
 have haS:a<s.heap.objs.size:=let⟨_,_,e,_⟩:=D;As e;have hSlt:S<s.heap.objs.size:=As hS;have hSa:S≠a:=λe=>by have:=D.typeIs (s:=s);obtain⟨o,ho,hc⟩:=this;rw[<-e,hS] at ho;cases ho;exact absurd (show Value.type "list"=Value.type "dict" from hc) (by decide)
 have hSI:S≠s.heap.objs.size:=Ba hSlt;unfold CU;have hT1:s.TypeIs (.ref a) "dict":=D.typeIs;refine Aa (Do hT1 ?_);have e1:EG (.ref S) (.ref a)=false:=by simp[EG,hSa]
 rw[if_neg (by rw[e1];decide)];refine Aa (Ra hs D ?_);generalize hh2:s.heap.push {cls:= .type "dict_keyiterator",data:= .fields #[.ref a,.int 0 0,.int us.length 0,.int ep 0]}=h2;have hk2:∀b o,s.heap.get? b=some o->h2.get? b=some o:=λb o e=>by rw[<-hh2];exact Ad _ e
 have hi:h2.IsKeyIter s.heap.objs.size a 0 us.length ep:=by rw[<-hh2];exact⟨_,Ak _ rfl,rfl,rfl⟩
 have D2:KeyRow h2 a us ep:=D.at' (hk2 a);show wpAny _ A.in1 _ _ _ {s with heap:=h2}
 refine Aa (Av (Zs (s:={s with heap:=h2}) D2.typeIs ?_))
 rw[if_pos (by decide)];refine Aa (BS ?_);have hS2:=hk2 _ _ hS;refine Aa ?_;show wpAny _ A.in1 (updateSeq S (·.push .none)>>=λ_=>updateSeq S (·.pop)) _ _ {s with heap:=h2}
 refine Aa (wpAny_updateSeq hS2 rfl ?_);have hS3:=Bn (AQ (·.push Value.none)) hS2 rfl;refine wpAny_updateSeq hS3 rfl ?_;have hS4:=Bn (AQ (·.pop)) hS3 rfl;have oth:∀b o,b≠S->h2.get? b=some o->((h2.update S (AQ (·.push Value.none))).update S (AQ (·.pop))).get? b=some o:=
  λb o hb e=>(Fh _ _ (Be hb)).trans ((Fh _ _ (Be hb)).trans e)
 have hane:a≠s.heap.objs.size:=Ba haS;have ext:Fd S h2 ((h2.update S (AQ (·.push Value.none))).update S (AQ (·.pop))):=λb o hb e=>oth b o hb e;have W:=(ZQ (prog:=prog) (w:=w) (A:=A.in1) (by simpa using hh) s.heap.objs.size a hane us ep).toS;refine Ab ⟨C_ PySem.F.plain_extend_loop _,codeAny_extend_loopS W hz S ?_ _ us.length 0 _ _ _ rfl (AK _)
  ⟨hi.extBut ext (Be hSI),D2.at' (λo e=>ext a o (Be hSa) e)⟩ hS4 (ItemsOf.nil _) λs' acc' c' hm hS' hacc=>?_⟩
 . intro hmem;rw[Ag,Af] at hmem;rcases hmem with h | h
   . exact hSI h
   . exact hSa h
 . rw[Moved.eq_with hm];have ea:acc'=us.toArray:=by
    apply FG.mp;refine Dy λi=>?_;have hz:=hacc.1;cases e:acc'[i]? with
    | none=> have:=Array.getElem?_eq_none_iff.mp e;rw[DF (by simpa using this),DF (by simp;lia)]
    | some v=> have:us[i]?=some v:=hacc.2 i v e;simp[e,this]
   subst ea;refine hR s'.heap s'.toks c' (λb o hb e=>hm.heap b o (λhmem=>?_) (oth b o hb (hk2 _ _ e))) hS';simp only[Ag,AC,or_false] at hmem;rcases hmem with h | h
   . exact hb h
   . exact absurd (As e) (by rw[h];exact Nat.lt_irrefl _)
theorem zej{a:Addr}{Q:List Value->Shared->Prop}(hh:A.handled=none)(hs:(a==BR)=false)(D:KeyRow s.heap a us ep)(hz:us.length<=An)
 (hQ:∀(h':Heap)(tk:Nat),s.heap.objs.size<h'.objs.size->(∀b o,s.heap.get? b=some o->h'.get? b=some o)->Q us {s with heap:=h',toks:=tk}):
 wpAny (model prog w) A (collect (.ref a)) Q E s:=by
 unfold collect;refine Aa (Ft (BM PySem.F.entry_proto_collect ?_));rw[B6 PySem.F.plain_proto_collect _];show wpAny _ A.in1 (newList []>>=λl=>again (.builtin "list.__iadd__" ⟨[l,.ref a],[]⟩)) _ _ s;refine Aa (Bd ?_);refine Ab ⟨C_ EQ _,BM PySem.F.entry_list_iadd ?_⟩;rw[B6 EQ _];generalize hh1:s.heap.push {cls:= .type "list",data:= .seq ([]:List Value).toArray}=h1;have hk1:∀b o,s.heap.get? b=some o->h1.get? b=some o:=λb o e=>by rw[<-hh1];exact Ad _ e
 have hS1:h1.get? s.heap.objs.size=some {cls:= .type "list",data:= .seq ([]:List Value).toArray}:=by rw[<-hh1];exact Ak _ rfl
 show wpAny _ A.in1 (CU (.ref s.heap.objs.size) (.ref a) (.ref s.heap.objs.size)) _ _ {s with heap:=h1}
 refine Zx (A:=A) (s:={s with heap:=h1}) (R:=λr s'=>match r with
  | .ok (.ret v)=>wpAny (model prog w) A (match v with
   | .ref a=>(do
    let o <-load a
    match o.data with
     | .seq xs _=>pure xs.toList
     | _=>unsupported "internal:collect")
   | _=>unsupported "internal:collect") Q E s'
  | .ok _=>False
  | .error e=>E e s') hh hs (D.at' λo e=>hk1 a o e) hz _ _ 0 hS1 λh' tk c' hk hS'=>?_
 show wpAny _ A (load s.heap.objs.size>>=_) _ _ _;refine Aa (wpAny_load hS' ?_);refine Ab ?_;exact hQ h' tk (As hS') λb o e=>hk b o (Ba (As e)) (hk1 b o e)
end
noncomputable def GW(hd:Hd)(d:D):Option (List D):=match seqL hd d with
 | some xs=>some xs
 | none=>(match d with | .ref a=>(match hd a with | some (.dct _ ks _)=>some ks | _=>none) | _=>none)
section
variable{X:Cx}{pins:List (Addr×Obj)}{vl:List (D×Value)}{σ:Sd}{H:Hx}{s:Shared}{d:D}{u:Value}{ds:List D}{A:Ax}{E:Value->Shared->Prop}
theorem Inv.keys{a:Addr}{t:Bool}{ks vs:List D}(I:Inv X pins vl σ H s)(e:H.hd a=some (.dct t ks vs)):(a==BR)=false/\∃us ep,us.length=ks.length/\ks.length<=An/\KeyRow s.heap a us ep/\Rvs X.ev s.heap H ks us:=by obtain⟨ep,l,y,_,_,o,us,ws,e1,⟨c,es,d,k,_⟩,r,_⟩:=I.hok.at' a _ e;exact⟨y,us,ep,r.length.symm,l,⟨o,es,e1,c,d,k⟩,r⟩
theorem Inv.collect{Q:List Value->Shared->Prop}(I:Inv X pins vl σ H s)(r:Rv X.ev s.heap H d u)(sq:GW H.hd d=some ds)(hh:A.handled=none)
 (q:∀(h':Heap)(tk:Nat)(us:List Value),Rvs X.ev s.heap H ds us->us.length<=An->s.heap.objs.size<h'.objs.size->(∀b o,s.heap.get? b=some o->h'.get? b=some o)->Q us {s with heap:=h',toks:=tk}):wpAny (model X.prog X.w) A (collect u) Q E s:=by
 unfold GW at sq;cases e:Lake.seqL H.hd d with
 | some xs=>
  rw[e] at sq;cases sq;obtain⟨a,us,n,rfl,w,r2,z⟩:=I.seqL r e;refine collect_list ⟨_,w,rfl,n,rfl⟩ (q _ s.toks us r2 z ?_ λb o q=>?_) z
  . rw[Heap.size_update,size_push'];exact Nat.lt_succ_self _
  . have:=As q;rw[FB _ _ _ _ (Ba this),Heap.get?_push_ne _ _ _ (Ba this)];exact q
 | none=>
  rw[e] at sq;cases d with
  | ref a=>
   dsimp only at sq
   split at sq
   . rename_i t ks vs e2;cases sq;cases r.r;obtain⟨y,us,ep,l,z,R,r2⟩:=I.keys e2;exact zej hh y R (by lia) λh' tk sz kp=>q h' tk us r2 (by lia) sz kp
   . cases sq
  | _=>cases sq
noncomputable def JI(ns:List Str)(k:List D->Prop):Prop:=ns.length<64/\∀ms,ms.Perm ns->sortedS ms=true->k (ms.map .str)
noncomputable def Oy(ns:List Int)(k:List D->Prop):Prop:=ns.length<64/\∀ms:List Int,ms.Perm ns->ms.Pairwise (· <= ·)->k (ms.map .int)
noncomputable def KP(ds:List D)(hd:Hd)(k:List D->Hd->Prop):Prop:=match ds with
 | [d]=>(match GW hd d with
  | some xs=>(match JR xs with
   | some ns=>JI ns λrs=>k rs hd
   | none=>(match Mn xs with | some ns=>Oy ns λrs=>k rs hd | none=>False))
  | none=>False)
 | _=>False
theorem Se{G:Ev}{h:Heap}{H:Hx}:∀{ts:List Str}{us:List Value},Rvs G h H (ts.map .str) us->StrsAre us ts
 | [],_,h=>by cases h.n;exact .nil
 | x::ts,_,h=>by rw[Aj] at h;cases h with | cons r h=>cases r with | str _ t=>exact .cons _ _ (Se h)
theorem Sh{G:Ev}{h:Heap}{H:Hx}:∀{us:List Value}{ts:List Str},StrsAre us ts->Rvs G h H (ts.map .str) us
 | _,_,.nil=> .nil
 | _,_,.cons n t h=> .cons (.str n t) (Sh h)
theorem Sc{G:Ev}{h:Heap}{H:Hx}:∀{ts:List Int}{us:List Value},Rvs G h H (ts.map .int) us->IntsAre us ts
 | [],_,h=>by cases h.n;exact .nil
 | x::ts,_,h=>by rw[Aj] at h;cases h with | cons r h=>cases r with | int _ t=>exact .cons _ _ (Sc h)
theorem RO{G:Ev}{h:Heap}{H:Hx}:∀{us:List Value}{ts:List Int},IntsAre us ts->Rvs G h H (ts.map .int) us
 | _,_,.nil=> .nil
 | _,_,.cons n t h=> .cons (.int n t) (RO h)
theorem Inv.laidL{k:List D->Hd->Prop}{rs:List D}{ws:List Value}{p:Addr}{n t:Nat}{h':Heap}(I:Inv X pins vl σ H s)(kp:∀b o,s.heap.get? b=some o->h'.get? b=some o)(hp:s.heap.objs.size<=p)(e:HY h' p ws n)(r:Rvs X.ev s.heap H rs ws)(z:rs.length<=An)(q:k rs H.hd):NP X pins vl σ k (.ref p) {s with heap:=h',toks:=t}:=by
 have I1:=(I.hold r).born (t':=t) [p] kp λb hb=>by cases Af.mp hb;exact⟨hp,_,e⟩
 exact⟨rs,p,ws,n,_,rfl,I1,r.length,e,z,I.fpOk hp ⟨(I.hok.fresh hp).1,if_pos (by simp)⟩,q⟩
theorem ZU(hc:X.calm=true):MU X (λus=>call (.builtin "sorted") us) KP:=λ{pins vl s σ H k ds us}I r q=>by
 . replace q:=l1 q;obtain⟨d,rfl,q⟩:=q
   obtain⟨_,rfl,r1⟩:=r1 r
   split at q
   case h_2=>exact q.elim
   rename_i xs e0;have hs:=sizeLine_eq;refine Di kind_sorted plain_sorted entry_sorted (args_sorted1 _) ?_;unfold Builtin.«sorted»;refine Aa (m:=checkCount "sorted" 1 1 _) (Ab ?_);refine Aa (I.collect r1 e0 (by simpa using I.ok.hd hc) λh1 tk1 ws r2 hz hsz hk=>?_);refine Aa (wpAny_newList ?_ hz);have hoL:(h1.push (AW "list" ws.toArray 0)).get? h1.objs.size=some (AW "list" ws.toArray 0):=Ak _ rfl;show wpAny _ _ (holding _ _>>=_) _ _ {s with heap:=h1.push (AW "list" ws.toArray 0),toks:=tk1}
   have fin:∀(out:Array Value)(e:Nat)(rs:List D),Rvs X.ev s.heap H rs out.toList->rs.length<=An->k rs H.hd->(sortedHeap (h1.push (AW "list" ws.toArray 0)) h1.objs.size ws out).get? h1.objs.size=some (AW "list" out e)->NP X pins vl σ k (.ref h1.objs.size) {s with heap:=sortedHeap (h1.push (AW "list" ws.toArray 0)) h1.objs.size ws out,toks:=tk1}:=λout e rs rr z qq he=> I.laidL (λb o eb=>by have hb:b<h1.objs.size:=As (hk b o eb);rw[sortedHeap_old (Ba hb) (by rw[size_push'];exact E2 hb)];exact Ad _ (hk b o eb)) (BI hsz) (by rw[Array.toArray_toList];exact he) rr z qq
   split at q
   . rename_i ns e1;have e1:=Od e1;subst e1;have hv:=Se r2;have hl:=r2.length;rw[Ac] at hl;refine Aa (Av (A7 Fx ⟨_,hoL,rfl⟩ EY (list_sort_treeK strKind_oneLt hoL hv.keysOf (λv₁ v₂ rest e=>keyKind_strs (by rw[<-e];exact hv)) (by have:=q.1;lia) λst' a1 a2=>⟨_,rfl,?_⟩) (args_list_sort _)));obtain⟨ms,m1,m2,m3⟩:=sorted_out_str hv a1 a2;obtain⟨e,he⟩:=sortedHeap_at (out:=(arrOf st').map (·.2)) hoL;refine Ab ⟨_,rfl,fin _ e _ (Sh m1) ?_ (q.2 ms m2 m3) he⟩;rw[Ac,m2.length_eq];have:=q.1;lia
   . split at q
     case h_2=>exact q.elim
     rename_i ns e1;have e1:=QZ e1;subst e1;have hv:=Sc r2;have hl:=r2.length;rw[Ac] at hl;refine Aa (Av (A7 Fx ⟨_,hoL,rfl⟩ EY (list_sort_tree hoL hv (by have:=q.1;lia) λout ms m1 m2 m3=>⟨_,rfl,?_⟩) (args_list_sort _)));obtain⟨e,he⟩:=sortedHeap_at (out:=out) hoL;refine Ab ⟨_,rfl,fin _ e _ (RO m1) ?_ (q.2 ms m2 m3) he⟩;rw[Ac,m2.length_eq];have:=q.1;lia
end
open PySem PySem.Spec PyProof.Rows PySem.W
theorem R6:AN "sorted"=some (.builtin "sorted"):=by decide+kernel
mutual
def JH:D->Bool
 | .non=>true
 | .bl _=>true
 | .int _=>true
 | .str _=>true
 | .tup ds=>Hy ds
 | .lst ds=>Hy ds
 | _=>false
def Hy:List D->Bool
 | []=>true
 | d::ds=>JH d && Hy ds
end
section
variable{G:Ev}{h:Heap}{H:Hx}
theorem Sq.one{c:String}{a:Addr}{us ws:List Value}(p:Sq h H c a us)(q:Sq h H c a ws):us=ws:=by obtain⟨o,e1,_,n,d1⟩:=p.at_;obtain⟨o',e2,_,m,d2⟩:=q.at_;cases e1.symm.trans e2;cases d1.symm.trans d2;rfl
theorem Sq.two{a:Addr}{us ws:List Value}(p:Sq h H "tuple" a us)(q:Sq h H "list" a ws):False:=by obtain⟨o,e1,c1,_⟩:=p.at_;obtain⟨o',e2,c2,_⟩:=q.at_;cases e1.symm.trans e2;rw[c1] at c2;injection c2 with z;exact absurd z (by decide)
theorem Rv.uniq{d e:D}{v:Value}(p:JH d=true)(q:JH e=true)(r:Rv G h H d v)(t:Rv G h H e v):d=e:=
 @Rv.rec G h H (λd v _=>∀{e},JH d=true->JH e=true->Rv G h H e v->d=e) (λd v _=>∀{e},Hy d=true->Hy e=true->Rvs G h H e v->d=e)
  (λ{_}_ q r=>by cases r<;>first | rfl | cases q) (λ_{_}_ q r=>by cases r<;>first | rfl | cases q) (λ_ _{_}_ q r=>by cases r<;>first | rfl | cases q) (λ_ _{_}_ q r=>by cases r<;>first | rfl | cases q)
  (λ_{_}p _ _=>nomatch p) (λ_{_}p _ _=>nomatch p) (λ{_ _}_ _{_}p _ _=>nomatch p) (λ{_ _ _ _}_ _ _ _{_}p _ _=>nomatch p)
  (λ{_ _ _}f _ ih{_}p q r=>by
   cases r with
   | tup f' s'=>cases f.one f';rw[ih p q s']
   | lst f' s'=>exact(f.two f').elim
   | _=>cases q)
  (λ{_ _ _}f _ ih{_}p q r=>by
   cases r with
   | lst f' s'=>cases f.one f';rw[ih p q s']
   | tup f' s'=>exact(f'.two f).elim
   | _=>cases q)
  (λ{_}_ _ r=>by cases r;rfl)
  (λ{_ _ _ _}_ _ a b{_}p q r=>by cases r with | cons a' b'=> rw[Hy,Ae] at p q;rw[a p.1 q.1 a',b p.2 q.2 b']) d v r _ p q t
end
noncomputable def K1:D->Bool
 | .lst _=>true
 | _=>false
noncomputable def Kz:D->Bool
 | .tup (.tup _::_)=>true
 | _=>false
noncomputable def LW:D->Bool
 | .str _=>true
 | _=>false
noncomputable def Ky:D->Bool
 | .tup _=>true
 | _=>false
noncomputable def K0:D->Bool
 | .tup []=>true
 | _=>false
noncomputable def HU(ks:List D):Bool:=decide (ks.length<2) || ks.all K1 || ks.all Kz || ks.all LW || (ks.all Ky && ks.any K0)
noncomputable def KB(kf:D->D)(rs:List D):Prop:=rs.Pairwise λa b=>Gq (kf b) (kf a)=false
noncomputable def J6(M:Nat)(S:FS)(ds:List D)(h1:Hd)(fin:List D->Prop):Prop:=ds.length<=M/\(∀d∈ds,JH d=true)/\∃kf:D->D,(∀d∈ds,S [d] h1 (λc h=>c=kf d/\Le h1 h) (λ_ _=>False)/\Gm 20 (kf d)=true)/\HU (ds.map kf)=true/\(∀d∈ds,∀c∈ds,GF (kf d) (kf c)=true)/\∀rs,rs.Perm ds->KB kf rs->fin rs
noncomputable def KU(M:Nat)(S:FS)(T:G6):G6:=λσ hd k e=>T σ hd (λas h1=>match as with
 | [x]=>(match GW h1 x with
  | some ds=>J6 M S ds h1 λrs=>k rs h1
  | none=>False)
 | _=>False) e
noncomputable def Il(kf:D->D)(ds:List D)(i:Nat):D:=match ds with
 | []=> .non
 | d0::r=>kf ((d0::r).getD i d0)
section
variable{kf:D->D}{ds:List D}{p:Array Nat}
theorem IW{i:Nat}(h:i<ds.length):Il kf ds i=kf ds[i]:=by
 cases ds with
 | nil=>simp at h
 | cons d0 r=>unfold Il;dsimp only;rw[A_,Ap h];rfl
theorem Qf(h:ds≠[])(i:Nat):∃d∈ds,Il kf ds i=kf d:=by
 obtain⟨d0,r,rfl⟩:=List.exists_cons_of_ne_nil h;rcases EE i (d0::r).length with l | l
 . exact⟨_,AI l,IW l⟩
 . exact⟨d0,.head _,by unfold Il;dsimp only;rw[A_,DF l];rfl⟩
theorem Wu(h:HU (ds.map kf)=true):N3 ds.length (Il kf ds):=by
 unfold HU at h;rw[CG,CG,CG,CG,decide_eq_true_iff,Ac,Ae] at h;have at_:∀(f:D->Bool),(ds.map kf).all f=true->∀i,i<ds.length->f (Il kf ds i)=true:=λf hf i hi=>by rw[IW hi];exact A3.mp hf _ (BF (AI hi))
 rcases h with(((h | h) | h) | h) | h
 . exact .inl h
 . refine .inr (.inl λi hi=>?_);have:=at_ _ h i hi;generalize Il kf ds i=z at this ⊢;cases z<;>first | exact⟨_,rfl⟩ | (simp[K1] at this)
 . refine .inr (.inr (.inl λi hi=>?_));have:=at_ _ h i hi;generalize Il kf ds i=z at this ⊢;unfold Kz at this
   split at this
   . exact⟨_,_,rfl⟩
   . cases this
 . refine .inr (.inr (.inr (.inl λi hi=>?_)));have:=at_ _ h i hi;generalize Il kf ds i=z at this ⊢;cases z<;>first | exact⟨_,rfl⟩ | (simp[LW] at this)
 . refine .inr (.inr (.inr (.inr ⟨λi hi=>?_,?_⟩)))
   . have:=at_ _ h.1 i hi;generalize Il kf ds i=z at this ⊢;cases z<;>first | exact⟨_,rfl⟩ | (simp[Ky] at this)
   . obtain⟨c,m,q⟩:=List.any_eq_true.mp h.2;obtain⟨d,m2,rfl⟩:=AG.mp m;obtain⟨i,hi,e⟩:=F8 m2;refine⟨i,hi,?_⟩;rw[IW hi,e];unfold K0 at q
     split at q
     . assumption
     . cases q
theorem Xo(hp:KS.Ok ds.length p):(p.toList.map λi=>ds.getD i .non).Perm ds:=by
 refine(hp.perm.map _).trans ?_;have:((A6 ds.length).map λi=>ds.getD i .non)=ds:=by
  apply List.ext_getElem
  . simp
  . intro i h1 h2;simp[h2]
 rw[this]
theorem VG(hp:KS.Ok ds.length p)(hs:KS.Srt (λi j=>Gq (Il kf ds i) (Il kf ds j)) p ds.length):KB kf (p.toList.map λi=>ds.getD i .non):=by
 unfold KB;rw[BE,List.pairwise_iff_getElem];intro i j hi hj hij;have z:=hp.size;simp only[A4] at hi hj;have q:=hs i j hij (by lia);have b1:=hp.below (i:=i) (by lia);have b2:=hp.below (i:=j) (by lia);have e1:KS.K p i=p.toList[i]:=by simp[KS.K,Array.getD,hi]
 have e2:KS.K p j=p.toList[j]:=by simp[KS.K,Array.getD,hj]
 dsimp only at q;rw[e1] at b1 q;rw[e2] at b2 q;rw[IW b1,IW b2] at q;rw[A_,A_,Ap b1,Ap b2];exact q
theorem QM{G:Ev}{h:Heap}{H:Hx}{us:List Value}(r:Rvs G h H ds us):∀l:List Nat,(∀i∈l,i<ds.length)->Rvs G h H (l.map λi=>ds.getD i .non) (l.map λi=>us.getD i Value.none)
 | [],_=> .nil
 | i::l,q=>by obtain⟨v,e,dv⟩:=r.get (Ap (q i (.head _)));refine .cons ?_ (QM r l λj hj=>q j (.tail _ hj));show Rv G h H (ds.getD i .non) (us.getD i Value.none);rw[A_,A_,e,Ap (q i (.head _))];exact dv
end
noncomputable abbrev Cx.in2(X:Cx):Cx:={X with A:=X.A.in1.in1,xe:=λ_ _=>False}
theorem Inv.in2{X:Cx}{pins vl σ H s}(I:Inv X pins vl σ H s):Inv X.in2 pins vl σ H s:=
 ⟨⟨I.ok.mod,I.ok.kind,I.ok.glob,I.ok.blt,I.ok.above,I.ok.inj,I.ok.has,I.ok.cab,I.ok.hd,I.ok.frames,I.ok.stk,I.ok.exf,I.ok.bs,I.ok.bsz,I.ok.funs,I.ok.frf⟩,I.os,I.bare,I.base,I.loc,I.val,I.cell,I.free,I.pin,I.hok,I.len⟩
theorem Inv.out2{X:Cx}{pins vl σ H s}(ok:X.Ok)(I:Inv X.in2 pins vl σ H s):Inv X pins vl σ H s:=⟨ok,I.os,I.bare,I.base,I.loc,I.val,I.cell,I.free,I.pin,I.hok,I.len⟩
section
variable{X:Cx}{xr:XR}{k M:Nat}{x px:Str}{S:FS}{e:Expr}{T:G6}{p1 p2 p3 pos:Pos}
theorem ZV(hc:X.calm=true)(hM:M<=1000)(SN:∀n,n<=M->M5 n){f:Addr}{fd:BL}(F:FnOk X.ev X.base k f fd [x] S)(hb:Binds X.K fd [x] [])(hr:Room (k+2) X.A){pins vl σ H s d u ds}{kk:List D->Hd->Prop}(I:Inv X pins vl σ H s)(r:Rv X.ev s.heap H d u)(sq:GW H.hd d=some ds)
 (q:J6 M S ds H.hd λrs=>kk rs H.hd):X.W (call (.builtin "sorted") [u] [(Au "key",.ref f)]) (NP X pins vl σ kk) s:=by
 obtain⟨l,al,kf,hk,form,ok,fin⟩:=q;have hs:=sizeLine_eq;refine call_function_entry_kw kind_sorted plain_sorted entry_sorted (ksk_s1 _ _) ?_;unfold Builtin.«sorted»;refine Aa (m:=checkCount "sorted" 1 1 _) (Ab ?_);refine Aa (I.collect r sq (by simpa using I.ok.hd hc) λh1 tk1 us r2 hz hsz hkp=>?_);have lu:=r2.length;refine Aa (wpAny_newList ?_ hz);have hoL:(h1.push (AW "list" us.toArray 0)).get? h1.objs.size=some (AW "list" us.toArray 0):=Ak _ rfl;have keep:∀b o,s.heap.get? b=some o->(h1.push (AW "list" us.toArray 0)).get? b=some o:=λb o q=>Ad _ (hkp b o q);show wpAny _ _ _ _ _ {s with heap:=h1.push (AW "list" us.toArray 0),toks:=tk1};generalize hL:h1.objs.size=L at*;generalize h1.push (AW "list" us.toArray 0)=g at hoL keep ⊢;refine Aa (Av (wpAny_call_entry_kw Fx ⟨_,hoL,rfl⟩ EY ?body (ksk_l1 _ _)))
 case body=>
  show wpAny (model X.prog X.w) X.A.in1.in1 (Builtin.«list.sort» ⟨[.ref L],[(Au "key",.ref f)]⟩) _ _ _;rw[ksk_t1];unfold ksk_tree;have ha:L<g.objs.size:=As hoL;refine Aa (listItems_at hoL rfl ?_);refine Aa (listUpdate_at hoL rfl ?_ (by rw[Ay];exact hz) (AK _));obtain⟨e1,ho1⟩:∃e1,(g.update L (AQ λ_=>#[])).get? L=some (AW "list" #[] e1):=⟨_,get?_update_seq hoL (λ_=>#[])⟩;refine Aa (seqEpoch_at ho1 rfl ?_);refine Aa (wpAny_newTuple ?_ (by show us.length<=_;exact hz));refine Aa (wpAny_newList ?_ (AK _));refine Av ?_;have ho6:(((g.update L (AQ λ_=>#[])).push (AW "tuple" us.toArray 0)).push (AW "list" #[] 0)).get? L=some (AW "list" #[] e1):=
   Ad _ (Ad _ ho1)
  have hkS:((g.update L (AQ λ_=>#[])).push (AW "tuple" us.toArray 0)).objs.size=g.objs.size+1:=by rw[size_push',Heap.size_update]
  have hok6:(((g.update L (AQ λ_=>#[])).push (AW "tuple" us.toArray 0)).push (AW "list" #[] 0)).get? (g.objs.size+1)=some (AW "list" #[] 0):=by rw[<-hkS];exact Ak _ rfl
  have kept:∀b o,s.heap.get? b=some o->(((g.update L (AQ λ_=>#[])).push (AW "tuple" us.toArray 0)).push (AW "list" #[] 0)).get? b=some o:=λb o q=>by refine Ad _ (Ad _ ?_);rw[FB _ _ _ _ (by have:=As q;lia)];exact keep b o q
  show wpAny _ _ (ksk_rest _ _ _ _ _ (.ref ((g.update L (AQ λ_=>#[])).push (AW "tuple" us.toArray 0)).objs.size)) _ _ {s with heap:=((g.update L (AQ λ_=>#[])).push (AW "tuple" us.toArray 0)).push (AW "list" #[] 0),toks:=tk1}
  rw[hkS];generalize((g.update L (AQ λ_=>#[])).push (AW "tuple" us.toArray 0)).push (AW "list" #[] 0)=g6 at ho6 hok6 kept ⊢;have I6:Inv X.in2 pins (ds.zip us++vl) σ (H.owns [L,g.objs.size+1]) {s with heap:=g6,toks:=tk1}:=(I.in2.hold r2).born (t':=tk1) [L,g.objs.size+1] kept λb hb=>by
   rcases Ag.mp hb with rfl | hb
   . exact⟨BI hsz,_,ho6⟩
   . cases Af.mp hb;exact⟨by lia,_,hok6⟩
  have Fa:FpOk X.in2 pins (H.owns [L,g.objs.size+1]) L:=I.in2.fpOk (BI hsz) ⟨(I.hok.fresh (BI hsz)).1,if_pos (by simp)⟩;have Fk0:FpOk X.in2 pins (H.owns [L,g.objs.size+1]) (g.objs.size+1):=I.in2.fpOk (by lia) ⟨(I.hok.fresh (by lia)).1,if_pos (by simp)⟩;have Fk:FpOk X.in2 ((L,AW "list" #[] e1)::pins) (H.owns [L,g.objs.size+1]) (g.objs.size+1):=⟨Fk0.1,Fk0.2.1,Fk0.2.2.1,Fk0.2.2.2.1,Fk0.2.2.2.2.1,λp hp=>by
   rcases Aq.mp hp with hp | hp
   . exact Fk0.2.2.2.2.2 p (A1 _ hp)
   . rcases Ag.mp hp with rfl | hp
     . show L≠g.objs.size+1;lia
     . exact Fk0.2.2.2.2.2 p (Am _ hp)⟩
  have I7:Inv X.in2 ((g.objs.size+1,AW "list" #[] 0)::(L,AW "list" #[] e1)::pins) (ds.zip us++vl) σ (H.owns [L,g.objs.size+1]) {s with heap:=g6,toks:=tk1}:=I6.pins_of λp hp=>by
   rcases Ag.mp hp with rfl | hp
   . exact⟨hok6,Fk.1,Fk.2.1,Fk.2.2.1,nofun⟩
   . rcases Ag.mp hp with rfl | hp
     . exact⟨ho6,Fa.1,Fa.2.1,Fa.2.2.1,nofun⟩
     . exact I6.pin p (Am _ hp)
  refine Yc (X:=X.in2) (kd:=Il kf ds) I7 Fa Fk lu (by lia) (SN _ (by lia)) (λi j hi hj e=>?_) (λi d u hd hu{pins' vl' s' H'}I' eh=>?_) (by rw[<-lu];exact Wu form) (λi hi=>?_) (by have:=hr.un;show X.A.units+1+1+24<cLine;lia) (λi j hi hj=>?_) ?_ λp s' H' n okp srt eh I' Ff hL=>?_
  . rw[IW (by lia),IW (by lia)];have at_:∀i(hi:i<ds.length),∃v,us[i]?=some v/\Rv X.ev s.heap H ds[i] v:=λi hi=>r2.get (Ap hi);obtain⟨v1,g1,z1⟩:=at_ i (by lia);obtain⟨v2,g2,z2⟩:=at_ j (by lia);rw[g1,g2] at e;cases e;rw[Rv.uniq (al _ (AI _)) (al _ (AI _)) z1 z2]
  . have hi:=(Ar.mp hd).1;have ed:ds[i]=d:=(Ar.mp hd).2;have m:d∈ds:=ed ▸ AI hi;have eh:H'.hd=H.hd:=eh;refine FO (PV (X:=X.in2) (xr:=GV) (us:=[u]) (ds:=[d]) (kk:=λc h=>c=kf d/\Le H.hd h) F hb (Room.in1 (Room.in1 hr)) JF I'.tl (.cons I'.hv .nil) (by rw[eh];exact(hk d m).1) (λ_ _ z=>z)) λu2 s2 ⟨d2,H2,I2,q1,q2⟩=>⟨d2,H2,I2,?_,q2⟩;rw[IW hi,ed];exact q1
  . rw[IW (by lia)];exact(hk _ (AI _)).2
  . rw[IW (by lia),IW (by lia)];exact ok _ (AI _) _ (AI _)
  . by_cases z:ds=[]
    . subst z;exact⟨λa b h=>by simp[Il,Gq] at h,λa b c _ _=>by simp[Il,Gq]⟩
    . exact YW λi j=>by obtain⟨d,m,e1⟩:=Qf (kf:=kf) z i;obtain⟨c,m2,e2⟩:=Qf (kf:=kf) z j;rw[e1,e2];exact ok d m c m2
  . refine⟨_,rfl,?_⟩;refine Ab ⟨_,rfl,?_⟩;rw[<-lu] at okp srt;have I9:=I'.out2 I.ok;have rp:=QM (I9.vals lu) p.toList λi hi=>by simpa using okp.perm.mem_iff.mp hi
    have pe:=Xo okp;refine⟨_,L,_,n,H',rfl,I9.out.hold rp,by simp,hL,?_,⟨Ff.1,Ff.2.1,Ff.2.2.1,Ff.2.2.2.1,Ff.2.2.2.2.1,Ff.2.2.2.2.2⟩,?_⟩
    . rw[pe.length_eq];lia
    . rw[show H'.hd=H.hd from eh];exact fin _ pe (VG okp srt)
theorem Zn(hc:X.calm=true)(hM:M<=1000)(SN:∀n,n<=M->M5 n)(F:∃f fd,FnD X.ev X.base k x [px] S f fd)(hr:Room (k+2) X.A)(hg:Gl X "sorted")(hm:X.mg "sorted"=none)(hx:Gl X x)(ha:DA X xr [e] T)(hks:(x==("__debug__":Str))=false:=by decide)
 (he:backTo pos (Ai [e] X.env)=(false,eval e X.env)::backTo pos (Ai [] X.env):=by rfl) (hpl:(backTo pos (Ai [e] X.env)).any (·.1)=false:=by rfl):
 DN X xr (.Call (.Name "sorted" p1) [e] [⟨some "key",.Name x p2,p3⟩] pos) (KU M S T):= .mk λ{pins vl s σ H kk ex}I h hq=>by
 obtain⟨f,fd,F,hb,kp,hm2⟩:=F;refine Bq (Js I hg hm R6 ?_ (by decide) (by decide));refine callWith_kw (FO (ha pos I h hq) λus s1 ⟨as,H1,I1,l,q⟩=>?_) he hpl rfl rfl;refine wpAny_evalAll_cons (Aa (MD I1 hx hm2 (Aa (Cp (Ab (wpAny_evalAll_nil ?_)))) hks))
 . replace q:=l1 q;obtain⟨d,rfl,q⟩:=q
   obtain⟨u,rfl⟩:=e1 l.symm;cases sq:GW H1.hd d with
   | none=>rw[sq] at q;exact q.elim
   | some ds=> rw[sq] at q;exact FO (ZV hc hM SN F hb hr I1 I1.hv sq q) λ_ _ z=>NP.out (ds:=[d]) (us:=[u]) z
theorem R9(hc:X.calm=true)(F:∃f fd,FnD X.ev X.base k x [px] S f fd)(hr:Room (k+2) X.A)(hg:Gl X "sorted")(hm:X.mg "sorted"=none)(hx:Gl X x)(ha:DA X xr [e] T)(hks:(x==("__debug__":Str))=false:=by decide)
 (he:backTo pos (Ai [e] X.env)=(false,eval e X.env)::backTo pos (Ai [] X.env):=by rfl) (hpl:(backTo pos (Ai [e] X.env)).any (·.1)=false:=by rfl):
 DN X xr (.Call (.Name "sorted" p1) [e] [⟨some "key",.Name x p2,p3⟩] pos) (KU 63 S T):=Zn hc (by decide) (λn h=>Xw (by lia)) F hr hg hm hx ha hks he hpl
theorem XV(F:∃f fd,FnD X.ev X.base k x [px] S f fd)(hr:Room (k+2) X.A)(hg:Gl X "sorted")(hm:X.mg "sorted"=none)(hx:Gl X x)(ha:DA X xr [e] T)(hks:(x==("__debug__":Str))=false:=by decide)
 (he:backTo pos (Ai [e] X.env)=(false,eval e X.env)::backTo pos (Ai [] X.env):=by rfl) (hpl:(backTo pos (Ai [e] X.env)).any (·.1)=false:=by rfl) (hc:X.calm=true:=by rfl):
 DN X xr (.Call (.Name "sorted" p1) [e] [⟨some "key",.Name x p2,p3⟩] pos) (KU 63 S T):=R9 hc F hr hg hm hx ha hks he hpl
theorem W_(hc:X.calm=true){es:List Expr}{p:Pos}(hg:Gl X "sorted")(hm:X.mg "sorted"=none)(ha:DA X xr (e::es) T)(he:Ai (e::es) X.env=(false,eval e X.env)::Ai es X.env:=by rfl)(hpl:(backTo pos (Ai es X.env)).any (·.1)=false:=by rfl):
 DN X xr (.Call (.Name "sorted" p) (e::es) [] pos) (JM KP T):=XT (ZU hc) hg hm R6 ha (by decide) (by decide) he hpl
end
namespace ST
open PySem.SetTable
noncomputable def lp(mask:Nat):Nat->Nat×Nat->Nat×Nat
 | 0,s=>s
 | m+1,s=>lp mask m (leap mask s.1 s.2)
theorem M9(mask:Nat):∀(m:Nat)(s:Nat×Nat),lp mask (m+1) s=leap mask (lp mask m s).1 (lp mask m s).2
 | 0,s=>rfl
 | m+1,s=>M9 mask m (leap mask s.1 s.2)
theorem Qh(mask:Nat):∀(m:Nat)(s:Nat×Nat),(lp mask m s).2=s.2 / 32^m
 | 0,s=>by simp[lp]
 | m+1,s=>by rw[M9];show(lp mask m s).2 / 32=_;rw[Qh mask m s,Nat.div_div_eq_div_mul,Nat.pow_succ]
theorem PB(mask:Nat):∀(m k:Nat)(s:Nat×Nat),lp mask (m+k) s=lp mask k (lp mask m s)
 | 0,k,s=>by rw[DZ];rfl
 | m+1,k,s=>by rw[Nat.add_right_comm];show lp mask (m+k) (leap mask s.1 s.2)=_;rw[PB mask m k];rfl
noncomputable def Kx(mask:Nat):Nat->Nat->Nat
 | 0,i=>i
 | k+1,i=>Kx mask k ((i*5+1)%(mask+1))
theorem Qi(mask:Nat):∀(k i:Nat),(lp mask k (i,0)).1=Kx mask k i
 | 0,i=>rfl
 | k+1,i=>by
  show(lp mask k (leap mask i 0)).1=_;have:leap mask i 0=((i*5+1)%(mask+1),0):=by unfold leap;simp
  rw[this,Qi mask k];rfl
theorem TK:∀i<8,∀e<8,∃k<8,Kx 7 k i=e:=by decide+kernel
theorem Wg:∀i<32,∀e<32,∃k<32,Kx 31 k i=e:=by decide+kernel
noncomputable def LU(mask:Nat):Nat->Nat->Nat
 | 0,_=>0
 | k+1,i=>(1<<<i) ||| LU mask k ((i*5+1)%(mask+1))
theorem PR{mask e:Nat}:∀(k i:Nat),(LU mask k i).testBit e=true->∃m<k,Kx mask m i=e
 | 0,i,h=>by simp[LU] at h
 | k+1,i,h=>by
  rw[LU,Nat.testBit_or,CG] at h;rcases h with h | h
  . rw[Nat.one_shiftLeft,Nat.testBit_two_pow] at h;exact⟨0,Nat.succ_pos _,of_decide_eq_true h⟩
  . obtain⟨m,hm,e'⟩:=PR k _ h;exact⟨m+1,by lia,e'⟩
theorem Vx:∀i<128,LU 127 128 i=2^128 - 1:=by decide+kernel
theorem Ww(i:Nat)(hi:i<128)(e:Nat)(he:e<128):∃k<128,Kx 127 k i=e:=by refine PR 128 i ?_;rw[Vx i hi,Nat.testBit_two_pow_sub_one];exact decide_eq_true he
noncomputable def KC(mask:Nat):Prop:=mask=7\/mask=31\/mask=127
theorem TV(mask:Nat):∀(m:Nat)(s:Nat×Nat),s.1<mask+1->(lp mask m s).1<mask+1
 | 0,s,h=>h
 | m+1,s,h=>by rw[M9];exact Dw _ (by lia)
theorem OZ{mask:Nat}(hm:KC mask){i p e:Nat}(hi:i<mask+1)(hp:p<2^64)(he:e<mask+1):∃m,m<mask+14/\(lp mask m (i,p)).1=e:=by
 have h13:(lp mask 13 (i,p)).2=0:=by rw[Qh];exact Nat.div_eq_of_lt (CD hp (by decide))
 have h1:=TV mask 13 (i,p) hi;obtain⟨k,hk,hl⟩:∃k<mask+1,Kx mask k (lp mask 13 (i,p)).1=e:=by
  rcases hm with rfl | rfl | rfl
  . exact TK _ h1 _ he
  . exact Wg _ h1 _ he
  . exact Ww _ h1 _ he
 refine⟨13+k,by lia,?_⟩;rw[PB,show lp mask 13 (i,p)=((lp mask 13 (i,p)).1,0) from Prod.ext rfl h13,Qi];exact hl
noncomputable def Gv(t:AY):Nat->Probe->Probe
 | 0,p=>p
 | k+1,p=>Gv t k (t.advance p)
theorem MG(t:AY):∀(k:Nat)(p:Probe),Gv t (k+1) p=t.advance (Gv t k p)
 | 0,p=>rfl
 | k+1,p=>MG t k (t.advance p)
theorem N4(t:AY):∀(m k:Nat)(p:Probe),Gv t (m+k) p=Gv t k (Gv t m p)
 | 0,k,p=>by rw[DZ];rfl
 | m+1,k,p=>by rw[Nat.add_right_comm];show Gv t (m+k) (t.advance p)=_;rw[N4 t m k];rfl
structure AtRun(mask:Nat)(p:Probe)(s:Nat×Nat):Prop where
 j:p.j=s.1
 i:p.i=s.1
 pe:p.perturb=s.2
 mo:p.more<=9
theorem QL(t:AY):∀(m:Nat)(p:Probe),p.more=m->Gv t m p={p with j:=p.j+m,more:=0}
 | 0,p,h=>by
  show p=_;cases p
  simp_all
 | m+1,p,h=>by
  show Gv t m (t.advance p)=_;have e:t.advance p={p with j:=p.j+1,more:=p.more - 1}:=by unfold DC;rw[if_pos (by lia)]
  rw[e,QL t m _ (by show p.more - 1=m;lia)];simp only[Probe.mk.injEq,and_true,true_and];lia
theorem Y7{t:AY}{p:Probe}{s:Nat×Nat}(h:AtRun t.mask p s):∃k,k<=10/\AtRun t.mask (Gv t k p) (leap t.mask s.1 s.2)/\(Gv t k p).dummy=p.dummy:=by
 refine⟨p.more+1,by have:=h.mo;lia,?_⟩;rw[MG,QL t p.more p rfl];have e:t.advance {p with j:=p.j+p.more,more:=0}={p with j:=(leap t.mask p.i p.perturb).1,more:=runEnd t.mask (leap t.mask p.i p.perturb).1 - (leap t.mask p.i p.perturb).1,i:=(leap t.mask p.i p.perturb).1,perturb:=(leap t.mask p.i p.perturb).2}:=by unfold DC;rw[if_neg (by show ¬(0>0);lia)]
 rw[e,h.i,h.pe];refine⟨⟨rfl,rfl,rfl,?_⟩,rfl⟩;show runEnd _ _ - _<=9;unfold runEnd
 split<;>lia
theorem LP{t:AY}{p:Probe}{s:Nat×Nat}(h:AtRun t.mask p s):∀m,∃k,k<=10*m/\AtRun t.mask (Gv t k p) (lp t.mask m s)/\(Gv t k p).dummy=p.dummy
 | 0=>⟨0,Al _,h,rfl⟩
 | m+1=>by
  obtain⟨k,hk,hr,hd⟩:=LP h m;obtain⟨k2,hk2,hr2,hd2⟩:=Y7 hr;refine⟨k+k2,by lia,?_,?_⟩
  . rw[N4,M9];exact hr2
  . rw[N4,hd2,hd]
theorem ZP(t:AY)(h:Int):AtRun t.mask (t.probeStart h) (bits h%(t.mask+1),bits h):=by
 refine⟨rfl,rfl,rfl,?_⟩;show runEnd _ _ - _<=9;unfold runEnd
 split<;>lia
theorem PZ(h:Int):bits h<2^64:=by
 unfold bits;have h0:=BN h (show(2^64:Int)≠0 by decide);have h1:=B0 h (show(0:Int)<2^64 by decide);have:(2:Int)^64=18446744073709551616:=by decide
 have:(2:Nat)^64=18446744073709551616:=by decide
 lia
theorem Ug{t:AY}(hm:KC t.mask)(h:Int){e:Nat}(he:e<t.mask+1):∃k,k<10*turns t.mask/\(Gv t k (t.probeStart h)).j=e:=by obtain⟨m,hm2,hl⟩:=OZ hm (i:=bits h%(t.mask+1)) (p:=bits h) (Dw _ (by lia)) (PZ h) he;obtain⟨k,hk,hr,_⟩:=LP (ZP t h) m;refine⟨k,?_,hr.j.trans hl⟩;unfold turns;lia
end ST
namespace ST
open PySem.SetTable
structure Bel(xs:Array Nat)(j b:Nat):Prop where
 le:b<=xs.size
 lo:∀i v,i<b->xs[i]?=some v->v<j
 hi:∀i v,b<=i->xs[i]?=some v->j<=v
theorem NS{xs:Array Nat}(h:xs.toList.Pairwise (· < ·)){i k v w:Nat}(hik:i<k)(hi:xs[i]?=some v)(hk:xs[k]?=some w):v<w:=by obtain⟨li,ei⟩:=B7.mp hi;obtain⟨lk,ek⟩:=B7.mp hk;have:=(Dj.mp h) i k (by simpa using li) (by simpa using lk) hik;simp only[DX] at this;rw[ei,ek] at this;exact this
theorem NG{xs:Array Nat}(h:xs.toList.Pairwise (· < ·))(j:Nat):∀(fuel lo hi:Nat),hi - lo<=fuel->lo<=hi->hi<=xs.size->(∀i v,i<lo->xs[i]?=some v->v<j)->(∀i v,hi<=i->xs[i]?=some v->j<=v)->Bel xs j (SetTable.below.go xs j fuel lo hi)
 | 0,lo,hi,hf,h1,h2,a,b=>by
  have:lo=hi:=by lia
  subst this;exact⟨h2,a,b⟩
 | fuel+1,lo,hi,hf,h1,h2,a,b=>by
  unfold SetTable.below.go;by_cases c:lo<hi
  . rw[if_pos c];dsimp only;have hm:(lo+hi) / 2<xs.size:=by lia
    have em:xs[(lo+hi) / 2]?=some xs[(lo+hi) / 2]:=by simp[hm]
    have ed:xs.getD ((lo+hi) / 2) j=xs[(lo+hi) / 2]:=by rw[Bz,em];rfl
    by_cases d:xs.getD ((lo+hi) / 2) j<j
    . rw[if_pos d];refine NG h j fuel _ _ (by lia) (by lia) h2 (λi v hi' e=>?_) b;by_cases q:i=(lo+hi) / 2
      . subst q;rw[em] at e;cases e;rw[<-ed];exact d
      . by_cases q2:i<lo
        . exact a i v q2 e
        . have:=NS h (show i<(lo+hi) / 2 by lia) e em;rw[ed] at d;lia
    . rw[if_neg d];refine NG h j fuel _ _ (by lia) (by lia) (by lia) a (λi v hi' e=>?_);by_cases q:i=(lo+hi) / 2
      . subst q;rw[em] at e;cases e;rw[<-ed];lia
      . have:=NS h (show(lo+hi) / 2<i by lia) em e;rw[ed] at d;lia
  . rw[if_neg c];have:lo=hi:=by lia
    subst this;exact⟨h2,a,b⟩
theorem Rj{xs:Array Nat}(h:xs.toList.Pairwise (· < ·))(j:Nat):Bel xs j (Bc xs j):=by unfold Bc;exact NG h j _ _ _ (by lia) (AK _) (Al _) (λi v hi _=>by lia) (λi v hi e=>by obtain⟨li,_⟩:=B7.mp e;lia)
theorem Yb{α:Type}{xs:Array α}{p:Nat}{x:α}(hp:p<=xs.size):(insertAt xs p x).toList=xs.toList.take p++x::xs.toList.drop p:=by rw[SetTable.toList_insertAt]
theorem Zy{xs:Array Nat}{j:Nat}(h:xs.toList.Pairwise (· < ·))(hj:j ∉ xs.toList):(insertAt xs (Bc xs j) j).toList.Pairwise (· < ·):=by
 have B:=Rj h j;rw[Yb B.le,Ea,List.pairwise_cons];refine⟨h.sublist (List.take_sublist _ _),⟨λv hv=>?_,h.sublist (List.drop_sublist _ _)⟩,λu hu v hv=>?_⟩
 . obtain⟨i,e⟩:=BZ hv;rw[List.getElem?_drop] at e;have e':xs[Bc xs j+i]?=some v:=by rw[<-BH];exact e
   have:=B.hi _ _ (Nat.le_add_right _ _) e';have ne:v≠j:=λz=>hj (z ▸ List.mem_of_mem_drop hv);lia
 . obtain⟨i,e⟩:=BZ hu;have li:i<Bc xs j:=by
    have:=(Ar.mp e).1;rw[Cj] at this;lia
   rw[List.getElem?_take] at e;rw[if_pos li] at e;have e':xs[i]?=some u:=by rw[<-BH];exact e
   have uj:=B.lo _ _ li e';rcases Ag.mp hv with rfl | hv
   . exact uj
   . obtain⟨k,ek⟩:=BZ hv;rw[List.getElem?_drop] at ek;have e2:xs[Bc xs j+k]?=some v:=by rw[<-BH];exact ek
     have:=B.hi _ _ (Nat.le_add_right _ _) e2;lia
structure Tab(t:AY)(n:Nat):Prop where
 mask:KC t.mask
 size:t.place.size=n
 ris:t.place.toList.Pairwise (· < ·)
 le:∀j∈t.place.toList,j<=t.mask
 du:t.dummies=#[]
 few:n*5<t.mask*3
theorem Tab.slot_live{t:AY}{n j i:Nat}(h:Tab t n)(e:t.slot j= .live i):t.place[i]?=some j/\i<n:=by
 unfold SetTable.slot at e;dsimp only at e
 split at e
 . rename_i q;cases e;have q':=eq_of_beq q;refine⟨q',?_⟩;have:=(B7.mp q').1;rw[h.size] at this;exact this
 . split at e<;>cases e
theorem Tab.no_dummy{t:AY}{n j:Nat}(h:Tab t n):t.slot j≠ .dummy:=by
 unfold SetTable.slot;dsimp only
 split
 . exact λz=>by cases z
 . rw[h.du];have:has #[] j=false:=rfl;rw[this];exact λz=>by cases z
theorem Tab.slot_of{t:AY}{n j:Nat}(h:Tab t n):(t.slot j= .empty↔j ∉ t.place.toList):=by
 have B:=Rj h.ris j;unfold SetTable.slot;dsimp only;by_cases c:j∈t.place.toList
 . obtain⟨i,e⟩:=BZ c;have e':t.place[i]?=some j:=by rw[<-BH];exact e
   have:i=Bc t.place j:=by
    rcases Nat.lt_trichotomy i (Bc t.place j) with z | z | z
    . exact absurd (B.lo _ _ z e') (Nat.lt_irrefl _)
    . exact z
    . exfalso;have lt:=(B7.mp e').1;have eb:t.place[Bc t.place j]?=some t.place[Bc t.place j]:=by simp[show Bc t.place j<t.place.size by lia]
      have h1:=B.hi _ _ (Al _) eb;have h2:=NS h.ris z eb e';lia
   rw[<-this,e',if_pos (by simp)];exact⟨λz=>(by cases z),λz=>absurd c z⟩
 . have:¬(t.place[Bc t.place j]?==some j)=true:=λq=>c (by
    have q':=eq_of_beq q;rw[<-BH] at q';exact AD q')
   rw[if_neg this,h.du];have:has #[] j=false:=rfl;rw[this];exact⟨λ_=>c,λ_=>rfl⟩
theorem Tab.room{t:AY}{n:Nat}(h:Tab t n):∃e,e<t.mask+1/\t.slot e= .empty:=by
 obtain⟨e,he,hn⟩:∃e,e<t.mask+1/\e ∉ t.place.toList:=by
  refine AE λc=>?_;have all:∀e∈A6 (t.mask+1),e∈t.place.toList:=λe he=>AE λz=>c ⟨e,BA.mp he,z⟩;have sub:(t.mask+1)<=t.place.toList.length:=by
   have:∀(a b:List Nat),a.Nodup->(∀x∈a,x∈b)->a.length<=b.length:=λa=>by
    induction a with
    | nil=>intro b _ _;exact AK _
    | cons x a ih=>
     intro b hn hs;rw[AL] at hn;have hx:=hs x AA;have:=ih (b.erase x) hn.2 λy hy=>by have ne:y≠x:=λe=>hn.1 (e ▸ hy);exact(List.mem_erase_of_ne ne).mpr (hs y (Aw _ hy))
     rw[List.length_erase_of_mem hx] at this;have:=Fc hx;rw[Ao];lia
   have:=this _ _ List.nodup_range all;rw[BD] at this;exact this
  rw[A4,h.size] at sub;have:=h.few;lia
 exact⟨e,he,h.slot_of.mpr hn⟩
theorem Tab.ends{t:AY}{n:Nat}(h:Tab t n)(hs:Int):∃N,N<10*turns t.mask/\t.slot (Gv t N (t.probeStart hs)).j= .empty/\∀k,k<N->t.slot (Gv t k (t.probeStart hs)).j≠ .empty:=by
 obtain⟨e,he,se⟩:=h.room;obtain⟨k,hk,ek⟩:=Ug h.mask hs he;have ex:∃N,t.slot (Gv t N (t.probeStart hs)).j= .empty:=⟨k,by rw[ek];exact se⟩;have P:∀m,(∃N,N<=m/\t.slot (Gv t N (t.probeStart hs)).j= .empty)->∃N,N<=m/\t.slot (Gv t N (t.probeStart hs)).j= .empty/\∀k,k<N->t.slot (Gv t k (t.probeStart hs)).j≠ .empty:=λm=>by
  induction m with
  | zero=> rintro⟨N,hN,e⟩;exact⟨N,hN,e,λk hk=>by lia⟩
  | succ m ih=>
   rintro⟨N,hN,e⟩;by_cases c:∃N,N<=m/\t.slot (Gv t N (t.probeStart hs)).j= .empty
   . obtain⟨N',h1,h2⟩:=ih c;exact⟨N',by lia,h2⟩
   . refine⟨N,hN,e,λk hk z=>c ⟨k,by lia,z⟩⟩
 obtain⟨N,h1,h2,h3⟩:=P k ⟨k,Al _,by rw[ek];exact se⟩;exact⟨N,by lia,h2,h3⟩
end ST
namespace ST
open PySem.SetTable
theorem Yx(t:AY)(p:Probe):(t.advance p).dummy=p.dummy:=by
 unfold DC
 split<;>rfl
theorem RQ(t:AY):∀(k:Nat)(p:Probe),(Gv t k p).dummy=p.dummy
 | 0,p=>rfl
 | k+1,p=>by show(Gv t k (t.advance p)).dummy=_;rw[RQ t k,Yx]
theorem Rw{mask i:Nat}(h:i<=mask):runEnd mask i<=mask:=by
 unfold runEnd
 split<;>lia
theorem Vw(t:AY)(p:Probe)(h:p.j+p.more<=t.mask):(t.advance p).j+(t.advance p).more<=t.mask:=by
 unfold DC
 split
 . show p.j+1+(p.more - 1)<=_;lia
 . have hi:(leap t.mask p.i p.perturb).1<=t.mask:=by
    have:=Dw (p.i*5+1+p.perturb / 32) (show t.mask+1>0 by lia);show(p.i*5+1+p.perturb / 32)%(t.mask+1)<=_;lia
   have hr:=Rw hi;have hg:(leap t.mask p.i p.perturb).1<=runEnd t.mask (leap t.mask p.i p.perturb).1:=by
    unfold runEnd
    split<;>lia
   show(leap t.mask p.i p.perturb).1+(runEnd t.mask (leap t.mask p.i p.perturb).1 - (leap t.mask p.i p.perturb).1)<=_;lia
theorem PY(t:AY):∀(k:Nat)(p:Probe),p.j+p.more<=t.mask->(Gv t k p).j+(Gv t k p).more<=t.mask
 | 0,p,h=>h
 | k+1,p,h=>PY t k _ (Vw t p h)
theorem YR(t:AY)(h:Int):(t.probeStart h).j+(t.probeStart h).more<=t.mask:=by
 have hi:bits h%(t.mask+1)<=t.mask:=by have:=Dw (bits h) (show t.mask+1>0 by lia);lia
 have hr:=Rw hi;have hg:bits h%(t.mask+1)<=runEnd t.mask (bits h%(t.mask+1)):=by
  unfold runEnd
  split<;>lia
 show bits h%(t.mask+1)+(runEnd t.mask (bits h%(t.mask+1)) - bits h%(t.mask+1))<=_;lia
theorem Pn{t:AY}{n:Nat}(T:Tab t n){hs:Int}{N:Nat}(hN:t.slot (Gv t N (t.probeStart hs)).j= .empty)(hb:∀k,k<N->t.slot (Gv t k (t.probeStart hs)).j≠ .empty)(hashAt:Nat->Int):∀(d k fuel:Nat),N - k=d->k<=N->d<fuel->
 probe.go t hashAt hs fuel (Gv t k (t.probeStart hs))=some (.empty (Gv t N (t.probeStart hs)).j none)\/
 ∃m i,k<=m/\m<N/\t.slot (Gv t m (t.probeStart hs)).j= .live i/\probe.go t hashAt hs fuel (Gv t k (t.probeStart hs))=some (.candidate (Gv t m (t.probeStart hs)).j i (Gv t (m+1) (t.probeStart hs)))
 | d,k,0,_,_,h=>by lia
 | d,k,fuel+1,hd,hk,hf=>by
  unfold probe.go;by_cases e:k=N
  . subst e
    left
    rw[hN];dsimp only;rw[RQ];rfl
  . have hk':k<N:=by lia
    cases hsl:t.slot (Gv t k (t.probeStart hs)).j with
    | empty=>exact absurd hsl (hb k hk')
    | dummy=>exact absurd hsl T.no_dummy
    | live i=>
     dsimp only;by_cases q:(hashAt i==hs)=true
     . right
       rw[if_pos q];exact⟨k,i,Al _,hk',hsl,by rw[MG]⟩
     . rw[if_neg q,<-MG];rcases Pn T hN hb hashAt (d - 1) (k+1) fuel (by lia) (by lia) (by lia) with z | ⟨m,i',h1,h2,h3,h4⟩
       . exact .inl z
       . exact .inr ⟨m,i',by lia,h2,h3,h4⟩
theorem Zb{t:AY}{n:Nat}(T:Tab t n){hs:Int}{N:Nat}(hl:N<10*turns t.mask)(hN:t.slot (Gv t N (t.probeStart hs)).j= .empty)(hb:∀k,k<N->t.slot (Gv t k (t.probeStart hs)).j≠ .empty)(hashAt:Nat->Int){k:Nat}(hk:k<=N):
 t.probe hashAt hs (Gv t k (t.probeStart hs))=some (.empty (Gv t N (t.probeStart hs)).j none)\/
 ∃m i,k<=m/\m<N/\t.slot (Gv t m (t.probeStart hs)).j= .live i/\t.probe hashAt hs (Gv t k (t.probeStart hs))=some (.candidate (Gv t m (t.probeStart hs)).j i (Gv t (m+1) (t.probeStart hs))):=Pn T hN hb hashAt _ k _ rfl hk (by lia)
theorem Tab.fits{t:AY}{n:Nat}(T:Tab t n):t.fits n=true:=by unfold SetTable.fits SetTable.fill;rw[T.size,T.du];have:=T.few;rcases T.mask with e | e | e<;>rw[e] at this ⊢ <;>simp<;>lia
theorem Tab.stays{t:AY}{n:Nat}(T:Tab t n):t.gaveWay=false:=by unfold SetTable.gaveWay;rcases T.mask with e | e | e<;>rw[e]<;>rfl
section
variable{prog:AM}{w:World}{A:Ax}{E:Value->Shared->Prop}{s:Shared}
theorem ZL{a:Addr}{o:Obj}{es:Array (Int×Value)}{ep:Nat}{t:AY}{x:Value}{hs:Int}{Q:SetFound->Shared->Prop}(ho:s.heap.get? a=some o)(hd:o.data= .set es ep t)(T:Tab t es.size)
 (refs:∀e∈es.toList,∃b,e.2= .ref b) (heq:∀e∈es.toList,∀R:Bool->Shared->Prop,R false s->wpAny (model prog w) A (eqBool e.2 x) R E s)
 (hseen:∀ys:List Value,(∀y∈ys,∃e∈es.toList,e.2=y)->∀R:Bool->Shared->Prop,R false s->wpAny (model prog w) A (searchCouldBeSeen x ys) R E s)
 (h:∀j,j<=t.mask->j ∉ t.place.toList->Q (.free j false) s):wpAny (model prog w) A (setSearch a x hs true) Q E s:=by
 obtain⟨N,hl,hN,hb⟩:=T.ends hs;have jl:(Gv t N (t.probeStart hs)).j<=t.mask:=by have:=PY t N _ (YR t hs);lia
 have fin:Q (.free (Gv t N (t.probeStart hs)).j false) s:=h _ jl (T.slot_of.mp hN);have tl:10*turns t.mask<=1420:=by unfold turns;rcases T.mask with e | e | e<;>rw[e]<;>decide
 have main:∀(d k fuel:Nat)(st:Option Probe),N - k=d->k<=N->d<fuel->st.getD (t.probeStart hs)=Gv t k (t.probeStart hs)->wpAny (model prog w) A (setSearchFrom a x hs true fuel st) Q E s:=by
  intro d
  induction d using Nat.strongRecOn with
  | _ d ih=>
   intro k fuel st hk1 hk2 hf hst;cases fuel with
   | zero=>lia
   | succ fuel=>
    unfold setSearchFrom;refine Aa (Ct ho hd T.fits ?_);dsimp only;rw[T.stays,hst];simp only[A2,if_false];generalize hp:SetTable.probe t _ hs (Gv t k (t.probeStart hs))=pr;obtain⟨hashAt,hf'⟩:∃f,t.probe f hs (Gv t k (t.probeStart hs))=pr:=⟨_,hp⟩;rcases Zb T hl hN hb hashAt hk2 with z | ⟨m,i,h1,h2,h3,z⟩
    . rw[hf'] at z;subst z;exact Ab fin
    . rw[hf'] at z;subst z;obtain⟨_,hi⟩:=T.slot_live h3;have ei:es[i]?=some es[i]:=by simp[hi]
      have mi:es[i]∈es.toList:=by simp
      obtain⟨b,eb⟩:=refs _ mi;have rest:wpAny (model prog w) A (setSearchFrom a x hs true fuel (some (Gv t (m+1) (t.probeStart hs)))) Q E s:=ih (N - (m+1)) (by lia) (m+1) fuel _ rfl (by lia) (by lia) rfl;by_cases hled:(!t.led)=true
      . dsimp only;rw[if_pos hled];refine Aa (hseen _ (λy hy=>?_) _ ?_)
        . obtain⟨e,he,rfl⟩:=AG.mp hy;exact⟨e,by have:=Cw.mp he;exact Cw.mpr (Array.mem_filter.mp this).1,rfl⟩
        . simp only[A2,if_false];rw[ei];dsimp only;refine Aa (Av (heq _ mi _ ?_));refine Aa (Ct ho hd T.fits ?_);simp only[Fm,A2,if_false];have sm:t.sameMemory t.moves t.mask=some true:=by
           unfold FC;simp
          rw[sm];simp only[if_true,h3];rw[ei];dsimp only;rw[eb];refine Aa (wpAny_isSame_ref_self ?_);exact Aa (Ab rest)
      . dsimp only;rw[if_neg hled];rw[ei];dsimp only;refine Aa (Av (heq _ mi _ ?_));refine Aa (Ct ho hd T.fits ?_);simp only[Fm,A2,if_false];have sm:t.sameMemory t.moves t.mask=some true:=by
         unfold FC;simp
        rw[sm];simp only[if_true,h3];rw[ei];dsimp only;rw[eb];refine Aa (wpAny_isSame_ref_self ?_);exact Aa (Ab rest)
 exact main _ 0 100000 none rfl (AK _) (by lia) rfl
end
end ST
namespace ST
open PySem.SetTable
theorem Qt{mask:Nat}{owner:Array (Option Nat)}(hz:owner.size=mask+1){e:Nat}(he:owner[e]?=some none):∀(f i p m:Nat),m<f->i<=mask->(lp mask m (i,p)).1=e->
 ∃j,layClean.free mask owner f i p=some j/\owner[j]?=some none
 | 0,i,p,m,h,_,_=>by lia
 | f+1,i,p,m,h,hi,hm=>by
  unfold layClean.free;cases hf:(A6 (runEnd mask i+1 - i)).find? (λk=>(owner.getD (i+k) (some 0)).isNone) with
  | some k=>
   refine⟨_,rfl,?_⟩;have:=Eb hf;rw[Bz] at this;cases ho:owner[i+k]? with
   | none=>rw[ho] at this;cases this
   | some q=>
    rw[ho] at this;cases q with
    | none=>rfl
    | some q=>cases this
  | none=>
   dsimp only;cases m with
   | zero=>
    exfalso;have e':i=e:=hm;subst e';have:=FE.mp hf 0 (BA.mpr (by unfold runEnd;split<;>lia))
    rw[Nat.add_zero,Bz,he] at this;exact this rfl
   | succ m=> refine Qt hz he f _ _ m (by lia) ?_ hm;have:=Dw (i*5+1+p / 32) (show mask+1>0 by lia);show(i*5+1+p / 32)%(mask+1)<=mask;lia
theorem Rx:∀{l:List (Option Nat)},(l.filterMap id).length<l.length->∃e:Nat,l[e]?=some none
 | [],h=>by cases h
 | none::l,h=>⟨0,rfl⟩
 | some x::l,h=>by
  have h':(l.filterMap id).length<l.length:=by simpa using h
  obtain⟨e,he⟩:=Rx h';exact⟨e+1,by simpa using he⟩
theorem QO:∀{l:List (Option Nat)}{j k:Nat},l[j]?=some none->((l.set j (some k)).filterMap id).Perm (k::l.filterMap id)
 | [],j,k,h=>by cases h
 | x::l,0,k,h=>by
  cases x with
  | none=>simp
  | some x=>simp at h
 | x::l,j+1,k,h=>by
  have ih:=QO (l:=l) (j:=j) (k:=k) (by simpa using h);cases x with
  | none=>simpa using ih
  | some x=> show(x::(l.set j (some k)).filterMap id).Perm (k::x::l.filterMap id);exact(ih.cons x).trans (List.Perm.swap _ _ _)
structure Own(mask n:Nat)(owner:Array (Option Nat)):Prop where
 size:owner.size=mask+1
 all:(owner.toList.filterMap id).Perm (A6 n)
theorem P9{mask:Nat}(hm:KC mask):∀(hs:List Int)(owner:Array (Option Nat))(n:Nat),Own mask n owner->n+hs.length<=mask->
 ∃ow,Own mask (n+hs.length) ow/\hs.foldl (λ(acc:Option (Array (Option Nat)×Nat))h=>do
  let(owner,k) <-acc
  let j <-layClean.free mask owner (turns mask) (bits h%(mask+1)) (bits h)
  pure (owner.setIfInBounds j (some k),k+1)) (some (owner,n))=some (ow,n+hs.length)
 | [],owner,n,O,_=>⟨owner,O,rfl⟩
 | h::hs,owner,n,O,hl=>by
  rw[Ao] at hl;obtain⟨e,he⟩:=Rx (l:=owner.toList) (by rw[O.all.length_eq,BD,A4,O.size];lia);rw[BH] at he;have el:e<mask+1:=by have:=(B7.mp he).1;rw[O.size] at this;exact this
  obtain⟨m,hm2,hr⟩:=OZ hm (i:=bits h%(mask+1)) (p:=bits h) (Dw _ (by lia)) (PZ h) el;obtain⟨j,hj,ho⟩:=Qt O.size he (turns mask) (bits h%(mask+1)) (bits h) m (by unfold turns;lia) (by have:=Dw (bits h) (show mask+1>0 by lia);lia) hr;have O':Own mask (n+1) (owner.setIfInBounds j (some n)):=by refine⟨by rw[Array.size_setIfInBounds];exact O.size,?_⟩;rw[Array.toList_setIfInBounds];refine(QO (by rw[BH];exact ho)).trans ?_;refine(O.all.cons n).trans ?_;rw[List.range_succ];exact List.perm_append_comm (l₁:=[n]) (l₂:=A6 n)
  obtain⟨ow,h1,h2⟩:=P9 hm hs _ _ O' (by lia);refine⟨ow,?_,?_⟩
  . rw[Ao];have:n+(hs.length+1)=n+1+hs.length:=by lia
    rw[this];exact h1
  . rw[List.foldl_cons,Ao];have:n+(hs.length+1)=n+1+hs.length:=by lia
    rw[this,<-h2];congr 1;show(layClean.free mask owner (turns mask) (bits h%(mask+1)) (bits h)>>=_)=_;rw[hj];rfl
theorem zea{mask:Nat}(hm:KC mask){hs:Array Int}(hl:hs.size<=mask):∃ow,Own mask hs.size ow/\layClean mask hs=some ow:=by
 obtain⟨ow,h1,h2⟩:=P9 hm hs.toList (Array.replicate (mask+1) none) 0 ⟨by simp,by simp⟩ (by rw[A4];lia);rw[DZ,A4] at h1 h2;refine⟨ow,h1,?_⟩;unfold layClean;rw[<-Array.foldl_toList]
 erw [h2]
 rfl
theorem XB(ow:Array (Option Nat)){n:Nat}(hz:ow.size=n):(A6 n).filterMap (λj=>ow.getD j none)=ow.toList.filterMap id:=by
 subst hz
 conv=>rhs;rw[<-filterMap_getElem?_range ow]
 rw[List.filterMap_filterMap];congr 1;funext j;rw[Bz];cases ow[j]?<;>rfl
theorem ZH{t:AY}{hs:Array Int}{wanted:Nat}{m:Nat}(hM:KC m)(hm:sizeAbove wanted=m+1)(hl:hs.size*5<m*3):
 ∃t' order,t.relaid hs wanted=some (t',order)/\Tab t' hs.size/\order.toList.Perm (A6 hs.size)/\t'.led=t.led/\t'.plain=t.plain:=by
 obtain⟨ow,O,e⟩:=zea (mask:=m) hM (hs:=hs) (by lia);unfold SetTable.relaid;rw[hm];unfold SetTable.laid;rw[show m+1 - 1=m from rfl,e];have ord:((((A6 (m+1)).filterMap λj=>(ow.getD j none).map (j, ·)).map (·.2)).toArray).toList.Perm (A6 hs.size):=by rw[Dc,List.map_filterMap];refine List.Perm.trans (List.Perm.of_eq ?_) O.all;rw[<-XB ow O.size];congr 1;funext j;cases ow.getD j none<;>rfl
 refine⟨_,_,rfl,⟨hM,?_,?_,?_,rfl,by show _*5<m*3;lia⟩,ord,rfl,rfl⟩
 . have:=ord.length_eq;rw[BD] at this;simpa using this
 . show((((A6 (m+1)).filterMap λj=>(ow.getD j none).map (j, ·)).map (·.1)).toArray).toList.Pairwise (· < ·);rw[Dc,List.map_filterMap,List.pairwise_filterMap];refine List.Pairwise.imp ?_ List.pairwise_lt_range;intro a b hab x hx y hy;cases ha:ow.getD a none with
   | none=>rw[ha] at hx;cases hx
   | some u=>
    cases hb:ow.getD b none with
    | none=>rw[hb] at hy;cases hy
    | some v=> rw[ha] at hx;rw[hb] at hy;cases hx;cases hy;exact hab
 . show ∀j∈((((A6 (m+1)).filterMap λj=>(ow.getD j none).map (j, ·)).map (·.1)).toArray).toList,j<=m;rw[Dc];intro j hj;obtain⟨x,hx,rfl⟩:=AG.mp hj;obtain⟨k,hk,e⟩:=By.mp hx;have:=BA.mp hk;cases ha:ow.getD k none with
   | none=>rw[ha] at e;cases e
   | some u=> rw[ha] at e;cases e;show k<=m;lia
end ST
namespace ST
open PySem.SetTable
theorem Tab.put_ok{t:AY}{n j:Nat}(T:Tab t n)(hj:j ∉ t.place.toList)(hl:j<=t.mask):
 (t.put j).1.mask=t.mask/\(t.put j).1.place.size=n+1/\(t.put j).1.place.toList.Pairwise (· < ·)/\(∀i∈(t.put j).1.place.toList,i<=t.mask)/\(t.put j).1.dummies=#[]:=by
 refine⟨rfl,?_,Zy T.ris hj,?_,?_⟩
 . show(insertAt t.place (Bc t.place j) j).size=_;rw[<-A4,(D7 _ _ _).length_eq,A4,EW,T.size]
 . intro i hi;rw[show(t.put j).1.place=insertAt t.place (Bc t.place j) j from rfl,(D7 _ _ _).mem_iff,Array.toList_push,Aq,Af] at hi;rcases hi with z | rfl
   . exact T.le i z
   . exact hl
 . show(if has t.dummies j then eraseAt t.dummies (Bc t.dummies j) else t.dummies)=_
   rw[T.du];rfl
end ST
open ST PySem.SetTable
theorem Np:AN "len"=some (.builtin "len"):=by decide+kernel
noncomputable def Hm(w:World):Bool:=w.params.followText "set-order"
theorem QI(h:Heap)(a:Addr)(es es':Array (Int×Value))(ep:Nat)(t t':AY)(ho:h.get? a=some {cls:= .type "set",dict:=none,data:= .set es ep t}):
 (h.update a (Obj.putSet es' t')).get? a=some {cls:= .type "set",dict:=none,data:= .set es' (ep+1) t'}:=by
 have:=Bn (Obj.putSet es' t') ho (by rw[putSet_of es' t' (o:={cls:= .type "set",dict:=none,data:= .set es ep t}) rfl];rfl);rw[putSet_of es' t' (o:={cls:= .type "set",dict:=none,data:= .set es ep t}) rfl] at this;exact this
section
variable{prog:AM}{w:World}{A:Ax}{E:Value->Shared->Prop}{s:Shared}
theorem zek(a:Value){Q₁:Value->Shared->Prop}
 (h:Q₁ (.ref s.heap.objs.size) {s with heap:=s.heap.push {cls:= .type "set",dict:=none,data:= .set #[] 0 (.fresh 0 0 (!Hm w))}}):
 codeAny (model prog w) A (.call (.builtin "set.__new__") ⟨[.type "set",a],[]⟩) (wants Q₁ E) s:=by
 refine codeAny_of_tree ?_;show wpAny _ A.in1 (do checkBuiltinCall "set.__new__" ⟨[.type "set",a],[]⟩;again (.builtin "set.__new__" ⟨[.type "set",a],[]⟩)) _ _ s
 refine Aa (wpAny_of_eq (PySem.F.newCall_set_1 a) (Ab ⟨C_ Fy _,BM PySem.F.entry_set_new ?_⟩));rw[B6 Fy _];unfold Builtin.«set.__new__» Builtin.Frozenset.newClass;have hsub:=sub_set_self;obtain⟨hp,g,d,tk,os⟩:=s;dsimp only
 wp_walk
 refine wpAny_askSetting (Ab ?_);dsimp only;simp only[newObj];refine Aa (wpAny_alloc (Ab ?_));exact Ab h
end
section
variable{prog:AM}{w:World}
theorem R3{h h':Heap}{d:D}{a:Addr}(x:Ix h d a)(k:∀(b:Addr)o,h.get? b=some o->h'.get? b=some o):Ix h' d a:=⟨x.1.keeps λa u ⟨o,h1,h2⟩=>⟨o,k _ _ h1,h2⟩,x.2⟩
noncomputable def WSetq(prog:AM)(w:World)(h0 h:Heap)(a:Addr)(ks:List D):Prop:=∃(es:Array (Int×Value))(ep:Nat)(t:AY),
 h.get? a=some {cls:= .type "set",dict:=none,data:= .set es ep t}/\Tab t es.size/\es.size=ks.length/\∀e∈es.toList,∃ws b,ws∈ks/\e.2= .ref b/\Ix h0 ws b
theorem WSetq.kept{h0 h h':Heap}{a:Addr}{ks:List D}(T:WSetq prog w h0 h a ks)(k:∀o,h.get? a=some o->h'.get? a=some o):WSetq prog w h0 h' a ks:=by obtain⟨es,ep,t,h1,h2,h3,h4⟩:=T;exact⟨es,ep,t,k _ h1,h2,h3,h4⟩
theorem zdT{h0 h:Heap}{a:Addr}{l:Bool}(e:h.get? a=some {cls:= .type "set",dict:=none,data:= .set #[] 0 (.fresh 0 0 l)}):WSetq prog w h0 h a []:=
 ⟨#[],0,_,e,⟨.inl rfl,rfl,.nil,λj hj=>by simp[SetTable.fresh] at hj,rfl,by show 0*5<7*3;decide⟩,rfl,λe he=>by simp at he⟩
variable{A:Ax}{E:Value->Shared->Prop}{s:Shared}
theorem Wh(n:Nat):∀(d:D)(u:Value)(Q:Bool->Shared->Prop),KeyV s.heap d u->(∀c,Q c s)->wpAny (model prog w) A (hashByValue n u) Q E s:=by
 induction n with
 | zero=> intro d u Q k h;cases k<;>(unfold hashByValue;exact Ab (h _))
 | succ n ih=>
  intro d u Q k h;cases k with
  | non=>unfold hashByValue;exact Ab (h _)
  | int i t=>unfold hashByValue;exact Ab (h _)
  | str i t=>unfold hashByValue;exact Ab (h _)
  | @tup a us ds p r=>
   have ty:s.TypeIs (.ref a) "tuple":=let⟨o,h1,h2,_⟩:=p;⟨o,h1,h2⟩;obtain⟨o,h1,_,m,h2⟩:=p;unfold hashByValue;refine Aa (Bw ty Cg.lookup ?_);dsimp only;refine Aa (BB h1 h2 (Aa ?_));show wpAny _ _ (forIn us.toArray _ _) _ _ s;rw[<-Dn];refine CW _ (λrest r s'=>s'=s/\∃es,KeyVs s.heap es rest) _ ?step ?done _ _ ⟨rfl,ds,by simpa using r⟩
   case step=>
    rintro v rest r s' ⟨rfl,es,hl⟩;cases hl with
    | cons c1 hl'=>
     refine Aa (ih _ _ _ c1 λd=>?_);cases d with
     | false=>exact Ab (Ab (h false))
     | true=>exact Ab ⟨rfl,_,hl'⟩
   case done=>
    rintro⟨r1,r2⟩ s' ⟨rfl,_⟩;cases r1 with
    | none=>exact Ab (h _)
    | some c=>exact Ab (h _)
theorem Qd(n:Nat):∀(d:D)(u:Value)(Q:Bool->Shared->Prop),Gz d<=n->KeyV s.heap d u->Q false s->wpAny (model prog w) A (ofAClassStatement n u) Q E s:=by
 induction n with
 | zero=>
  intro d u Q hn k h;cases k with
  | tup p r=>rw[Gz] at hn;lia
  | non=>unfold ofAClassStatement;exact Ab h
  | int i t=>unfold ofAClassStatement;exact Ab h
  | str i t=>unfold ofAClassStatement;exact Ab h
 | succ n ih=>
  intro d u Q hn k h;cases k with
  | non=>unfold ofAClassStatement;exact Ab h
  | int i t=>unfold ofAClassStatement;exact Ab h
  | str i t=>unfold ofAClassStatement;exact Ab h
  | @tup a us ds p r=>
   rw[Gz] at hn;have ty:s.TypeIs (.ref a) "tuple":=let⟨o,h1,h2,_⟩:=p;⟨o,h1,h2⟩;obtain⟨o,h1,_,m,h2⟩:=p;unfold ofAClassStatement;refine Aa (Do ty ?_);dsimp only;rw[if_pos (by decide)];refine Aa (Ab ?_);simp only[Cr,A2,if_false];refine Aa (BB h1 h2 ?_);dsimp only;refine Aa ?_;rw[<-Dn];refine CW _ (λrest r s'=>r.1=none/\s'=s/\∃es,KeyVs s.heap es rest/\HZ es<=n) _ ?step ?done _ _ ⟨rfl,rfl,ds,by simpa using r,by lia⟩
   case step=>
    rintro v rest r s' ⟨hr,rfl,es,hl,le⟩;cases hl with
    | cons c1 hl'=> rw[HZ,Nat.max_le] at le;refine Aa (ih _ _ _ le.1 c1 ?_);simp only[A2,if_false];exact Ab ⟨rfl,rfl,_,hl',le.2⟩
   case done=> rintro⟨r1,r2⟩ s' ⟨hr,rfl,_⟩;simp only at hr;subst hr;exact Ab h
theorem Z8{ws:D}{a:Addr}{ys:List Value}{Q:Bool->Shared->Prop}(hk:Ix s.heap ws a)(hy:∀y∈ys,∃ws' b,y= .ref b/\Ix s.heap ws' b)(h:Q false s):
 wpAny (model prog w) A (searchCouldBeSeen (.ref a) ys) Q E s:=by
 unfold searchCouldBeSeen;refine Aa ?_;refine CW _ (λrest r s'=>r.1=none/\s'=s/\∀y∈rest,∃ws' b,y= .ref b/\Ix s.heap ws' b) _ ?step ?done _ _ ⟨rfl,rfl,hy⟩
 case step=>
  rintro v rest r s' ⟨hr,rfl,al⟩;have al':=λu hu=>al u (Aw _ hu);obtain⟨ws',b,rfl,hb⟩:=al v AA;dsimp only
  split
  . exact Ab ⟨rfl,rfl,al'⟩
  . refine Aa ((KN prog w).quiet hk ?_);simp only[Cr,A2,if_false];refine Aa ((KN prog w).quiet hb ?_);simp only[Cr,A2,if_false];refine Aa (Qd 8 _ _ _ hk.2 hk.1 ?_);simp only[A2,if_false];refine Aa (Qd 8 _ _ _ hb.2 hb.1 ?_);simp only[A2,if_false];exact Ab ⟨rfl,rfl,al'⟩
 case done=> rintro⟨r1,r2⟩ s' ⟨hr,rfl,_⟩;simp only at hr;subst hr;exact Ab h
theorem ZR{S b:Addr}{ks:List D}{ws:D}{hs:Int}{Q:Bool->Shared->Prop}(hu:A.units+20<cLine){h0:Heap}(kp:∀b o,h0.get? b=some o->s.heap.get? b=some o)(T:WSetq prog w h0 s.heap S ks)(hk0:Ix h0 ws b)(hn:ws ∉ ks)(hl:ks.length<63)
 (h:∀h',AU S s.heap h'->WSetq prog w h0 h' S (ks++[ws])->Q true {s with heap:=h'}):
 wpAny (model prog w) A (setAddHashed S (.ref b) hs) Q E s:=by
 obtain⟨es,ep,t,ho,tab,hz,hel⟩:=T;have up:∀{x:D}{c:Addr},Ix h0 x c->Ix s.heap x c:=λq=>R3 q λb o e=>kp b o e;have hk:=up hk0;unfold setAddHashed setAddHashedIn;refine Av (Aa (Ct ho rfl tab.fits ?_));dsimp only;rw[if_neg (by unfold byScan;simp[Value.scannable])];refine Aa (ZL ho rfl tab (λe he=>?_) (λe he R hR=>?_) (λys hy R hR=>?_) λj hj1 hj2=>?_)
 . obtain⟨_,c,_,q,_⟩:=hel e he;exact⟨c,q⟩
 . obtain⟨ws',c,q1,q2,q3⟩:=hel e he;rw[q2];refine(KN prog w).eqBool hu (up q3) hk ?_;have ne:¬ws'=ws:=λz=>hn (z ▸ q1);rw[decide_eq_false ne];exact hR
 . refine Z8 hk (λy hy'=>?_) hR;obtain⟨e,he,rfl⟩:=hy y hy';obtain⟨ws',c,q1,q2,q3⟩:=hel e he;exact⟨ws',c,q2,up q3⟩
 . dsimp only;refine Aa (Ct ho rfl tab.fits ?_);dsimp only;obtain⟨p1,p2,p3,p4,p5⟩:=tab.put_ok hj2 hj1;generalize hP:t.put j=P at p1 p2 p3 p4 p5 ⊢;obtain⟨t1,pp⟩:=P;dsimp only at p1 p2 p3 p4 p5 ⊢;have perm:=D7 es pp (hs,Value.ref b);generalize hE:SetTable.insertAt es pp (hs,Value.ref b)=es1 at perm ⊢;have sz1:es1.size=es.size+1:=by rw[<-A4,perm.length_eq,A4,EW]
   have fin:∀(h':Heap)(es2:Array (Int×Value))(ep2:Nat)(t2:AY),AU S s.heap h'->h'.get? S=some {cls:= .type "set",dict:=none,data:= .set es2 ep2 t2}->es2.toList.Perm es1.toList->Tab t2 es2.size->Q true {s with heap:=h'}:=λh' es2 ep2 t2 sb ho2 p2 T2=>by
    have sz2:es2.size=es1.size:=by rw[<-A4,p2.length_eq,A4]
    refine h h' sb ⟨es2,ep2,t2,ho2,T2,by rw[sz2,sz1,hz,Ah];rfl,λe he=>?_⟩;have me:=(p2.trans perm).mem_iff.mp he;rw[Array.toList_push,Aq,Af] at me;rcases me with me | rfl
    . obtain⟨ws',c,q1,q2,q3⟩:=hel e me;exact⟨ws',c,A1 _ q1,q2,q3⟩
    . exact⟨ws,b,Am _ (List.mem_singleton.mpr rfl),rfl,hk0⟩
   have tail:∀(t2:AY),t2.mask=t.mask->t2.place=t1.place->t2.dummies=#[]->wpAny (model prog w) A (do
    storeSet S es1 t2
    if(!false && t2.tooFull)=true then
     setRelay S (Fz (es.size+1))
     pure true
    else pure true) Q E s:=λt2 m1 m2 m3=>by
    refine Aa (wpAny_storeSet_of (es':=es1) (t':=t2) ho rfl ?_ (by rw[sizeLine_eq];lia));have ho2:=QI s.heap S es es1 ep t t2 ho;have sb:=Bs s.heap S (Obj.putSet es1 t2);have fl:t2.fill=es1.size:=by unfold SetTable.fill;rw[m2,m3,p2,sz1];rfl
    by_cases tf:t2.tooFull=true
    . rw[if_pos (by rw[tf];rfl)];unfold SetTable.tooFull at tf;rw[fl,m1] at tf;have few:=tab.few;obtain⟨M,hM,hg,hl2,hfit,hzl⟩:∃M,KC M/\SetTable.sizeAbove (Fz (es.size+1))=M+1/\(es.size+1)*5<M*3/\es.size+1<=t.mask/\M+1<=128:=by
       rcases tab.mask with e | e | e
       . rw[e] at tf few;simp at tf;have n4:es.size=4:=by lia
         exact⟨31,.inr (.inl rfl),by rw[n4];decide,by lia,by lia,by decide⟩
       . rw[e] at tf few;simp at tf;have n4:es.size=18:=by lia
         exact⟨127,.inr (.inr rfl),by rw[n4];decide,by lia,by lia,by decide⟩
       . rw[e] at tf few;simp at tf
         lia
      unfold setRelay;refine Aa (Aa (Ct ho2 rfl ?_ ?_))
      . unfold SetTable.fits;rw[fl,m2,m1,p2,sz1,decide_eq_true hfit,beq_self_eq_true];rfl
      . dsimp only;rw[if_neg (by rw[hg,sizeLine_eq];lia)];obtain⟨t3,order,e1,T3,op,_,_⟩:=ZH (t:=t2) (hs:=es1.map (·.1)) (wanted:=Fz (es.size+1)) hM hg (by rw[F0,sz1];exact hl2);rw[e1];have per:(order.filterMap (es1[·]?)).toList.Perm es1.toList:=by
         rw[Array.toList_filterMap];refine(op.filterMap _).trans (List.Perm.of_eq ?_);rw[F0];exact filterMap_getElem?_range es1
        have sz3:(order.filterMap (es1[·]?)).size=es1.size:=by rw[<-A4,per.length_eq,A4]
        have sz0:¬((order.filterMap (es1[·]?)).size !=es1.size)=true:=by rw[sz3];simp
        refine Aa ?_;show wpAny _ _ (if((order.filterMap (es1[·]?)).size !=es1.size)=true then _ else _) _ _ _
        rw[if_neg sz0];refine Ab ?_;dsimp only;refine wpAny_storeSet_of ho2 rfl ?_ (by rw[sz3,sizeLine_eq];lia);refine Ab (fin _ _ _ t3 (sb.trans (Bs _ S _)) (QI _ S es1 _ (ep+1) t2 t3 ho2) per ?_);rw[sz3];rw[F0] at T3;exact T3
    . rw[if_neg (by rw[ED] at tf;rw[tf];exact Bb)];unfold SetTable.tooFull at tf;rw[fl,m1] at tf;refine Ab (fin _ es1 (ep+1) t2 sb ho2 (List.Perm.refl _) ⟨by rw[m1];exact tab.mask,by rw[m2,p2,sz1],by rw[m2];exact p3,by rw[m2,m1];exact p4,m3,?_⟩);rw[m1];simpa using tf
   by_cases hp:t1.plain=true
   . rw[if_pos hp];refine Aa (Wh 8 _ _ _ hk.1 λc=>?_);cases c with
     | true=>exact tail t1 p1 rfl p5
     | false=>exact tail {t1 with plain:=false} p1 rfl p5
   . rw[if_neg hp];exact Aa (Ab (tail t1 p1 rfl p5))
end
section
variable{prog:AM}{w:World}{A:Ax}{R:Result->Shared->Prop}{I:Addr}{fp wr:List Addr}{G:Array GenState->Array GenState->Prop}{P:Nat->Value->Prop}{St:Nat->Shared->Prop}
theorem ze8(ts:List D)(W:WalksS prog w A.in1 I fp wr G ts.length P St)(S:Addr)(hSf:S ∉ fp)(hu:A.in1.units+20<cLine){h0:Heap}(hfr:∀b∈S::wr,h0.get? b=none)
 (hval:∀i v,P i v->∃b ws,v= .ref b/\ts[i]?=some ws/\Ix h0 ws b) (nd:ts.Nodup) (hb:ts.length<=63):
 ∀(k i:Nat)(s:Shared),ts.length - i=k->i<=ts.length->St i s->WSetq prog w h0 s.heap S (ts.take i)->(∀b o,h0.get? b=some o->s.heap.get? b=some o)->
  (∀s',Moved (S::wr) G s s'->WSetq prog w h0 s'.heap S ts->R (.ok (.ret .none)) s')->
  codeAny (model prog w) A (.builtin "set.update.loop" ⟨[.ref S,.ref I],[]⟩) R s:=by
 have hSw:S ∉ wr:=λh=>hSf (W.sub _ h);have hsub:∀b∈wr,b∈S::wr:=λb hb=>Aw _ hb;have old:∀b o,h0.get? b=some o->b ∉ S::wr:=λb o e q=>by rw[hfr b q] at e;cases e
 intro k
 induction k with
 | zero=>
  intro i s hk hi hst hS kp hR;have hin:i=ts.length:=by lia
  subst hin;refine BM Dt ?_;rw[B6 Co _];show wpAny _ A.in1 (pyNext (.ref I)>>=_) _ _ s;refine Aa (W.done s _ _ hst λs' hm=>?_);show wpAny _ A.in1 (ret Value.none) _ _ s';rw[List.take_length] at hS;exact Ab (hR s' (hm.mono hsub) (hS.kept λo e=>hm.heap S _ hSw e))
 | succ k ih=>
  intro i s hk hi hst hS kp hR;have hlt:i<ts.length:=by lia
  refine BM Dt ?_;rw[B6 Co _];show wpAny _ A.in1 (pyNext (.ref I)>>=_) _ _ s;refine Aa (W.item i s _ _ hlt hst λv s' hP hst' hm=>?_);obtain⟨b,ws,rfl,hx,hkey⟩:=hval i v hP;have hS':WSetq prog w h0 s'.heap S (ts.take i):=hS.kept λo e=>hm.heap S _ hSw e;have kp':∀b o,h0.get? b=some o->s'.heap.get? b=some o:=λb o e=>hm.heap b o (λq=>old b o e (hsub b q)) (kp b o e);have key':Ix s'.heap ws b:=R3 hkey λb o e=>kp' b o e;have hni:ws ∉ ts.take i:=λq=>by obtain⟨j,hj,e⟩:=List.mem_iff_getElem.mp q;rw[Cj] at hj;rw[List.getElem_take] at e;obtain⟨hi',e2⟩:=Ar.mp hx;have:=(List.nodup_iff_pairwise_ne.mp nd);have:=(Dj.mp this) j i (by lia) hi' (by lia);exact this (e.trans e2.symm)
  show wpAny _ A.in1 (holding [Value.ref b] (setAdd S (.ref b))>>=_) _ _ s';refine Aa (Av ?_);unfold setAdd;refine Av ?_;refine Aa ((KN prog w).pyHash hu key' ?_);refine ZR (s:={s' with toks:=s'.toks+J8 ws}) hu (h0:=h0) kp' hS' hkey hni (by rw[Cj];lia) λh' hsb hS2=>?_
  refine Ab ⟨C_ Co _,ih (i+1) _ (by lia) hlt (W.frame _ s' _ _ hst' (by show s'.toks<=s'.toks+_;lia) λb hb o e=>?_) ?_ (λb o e=>?_) λs'' hm'' hS''=>?_⟩
  . rw[hsb.2 b (λh:b=S=>hSf (by rw[<-h];exact hb))];exact e
  . rw[List.take_succ,hx];exact hS2
  . rw[show Heap.get? h' b=_ from hsb.2 b (λh:b=S=>old b o e (by rw[h];exact AA))];exact kp' b o e
  . refine hR s'' (Moved.trans W.gtrans ((hm.mono hsub).then_heap (by show s'.toks<=s'.toks+_;lia) λb o hb e=>?_) hm'') hS'';rw[hsb.2 b (λh:b=S=>hb (by rw[h];exact AA))];exact e
end
section
variable{prog:AM}{w:World}{A:Ax}{E:Value->Shared->Prop}{s:Shared}
set_option maxHeartbeats 3200000 in
theorem zbS{l:Addr}{items:Array Value}{ts:List D}{Q:Value->Shared->Prop}
 (hh:A.handled=none) (hu:A.units+60<cLine) (hl:s.heap.IsList l items) (hsz:items.size=ts.length) (hi:∀(i:Nat)(v:Value),items[i]?=some v->∃b ws,v=Value.ref b/\ts[i]?=some ws/\Ix s.heap ws b) (nd:ts.Nodup) (hb:ts.length<=63)
 (h:∀(h':Heap)(tk:Nat),WSetq prog w s.heap h' s.heap.objs.size ts->
  (∀b o,b<s.heap.objs.size->s.heap.get? b=some o->h'.get? b=some o)->Q (.ref s.heap.objs.size) {s with heap:=h',toks:=tk}):
 wpAny (model prog w) A (call (.type "set") [.ref l]) Q E s:=by
 obtain⟨c,tl,hmro⟩:=PySem.F.called_set.mro;have hmade:=PySem.F.called_set.made;have hsub:=PySem.F.called_set.sub;refine wpAny_call (codeAny_of_tree ?_);show wpAny _ _ (callAny (.type "set") _) _ _ _;refine Ab ⟨Code.quiet_builtin _ (by decide+kernel),BM PySem.F.entry_type_call ?_⟩;rw[Around.under_plain (weight_type_call_type "set" [.ref l] []) rfl];have h1:=PySem.F.called_set.notType;have h2:=PySem.F.called_set.canCreate;have hct:=PySem.F.typeCall_set_1 (.ref l)
 repeat (any_goals (first | assumption | wp_step))
 refine BP (zek (.ref l) (E:=E) (Q₁:=λobj s₁=>obj= .ref s.heap.objs.size/\s₁={s with heap:=s.heap.push {cls:= .type "set",dict:=none,data:= .set #[] 0 (.fresh 0 0 (!Hm w))}}) ⟨rfl,rfl⟩) λr s₁ hr=>?_
 cases r with
 | error e=>exact hr
 | ok fl=>
  cases fl with
  | ret obj=>
   obtain⟨rfl,rfl⟩:=hr;have hS:(s.heap.push {cls:= .type "set",dict:=none,data:= .set #[] 0 (.fresh 0 0 (!Hm w))}).get? s.heap.objs.size=some {cls:= .type "set",dict:=none,data:= .set #[] 0 (.fresh 0 0 (!Hm w))}:=Ak _ rfl;have hT:Shared.TypeIs {s with heap:=s.heap.push {cls:= .type "set",dict:=none,data:= .set #[] 0 (.fresh 0 0 (!Hm w))}} (.ref s.heap.objs.size) "set":=⟨_,hS,rfl⟩;have hli:=PySem.F.called_set.init.lookup;have hbi:=PySem.F.called_set.init.bind (.ref s.heap.objs.size)
   repeat (any_goals (first | assumption | wp_step))
   refine BP (codeAny_call_builtin (R:=wants (λr s₂=>r= .none/\∃h' tk,s₂={s with heap:=h',toks:=tk}/\WSetq prog w s.heap h' s.heap.objs.size ts/\
    (∀b o,b<s.heap.objs.size->s.heap.get? b=some o->h'.get? b=some o)) E) PySem.F.called_set.init.plain PySem.F.entry_set_init (check_set_init_1 hT ?_)) λr₂ s₂ hr₂=>?_
   . obtain⟨ol,hol,hcl,nl,hdl⟩:=hl;obtain⟨ocls,odict,odata,oslots⟩:=ol;simp only at hcl hdl;subst hcl;subst hdl;have hol':(s.heap.push {cls:= .type "set",dict:=none,data:= .set #[] 0 (.fresh 0 0 (!Hm w))}).get? l=some {cls:= .type "list",dict:=odict,data:= .seq items nl,slots:=oslots}:=Ad _ hol;have hsls:=PySem.F.sub_list_set;have hslf:=PySem.F.sub_list_frozenset;have hne:(Value.type "list"==Value.type "dict")=false:=by decide
     have hl1:(s.heap.push {cls:= .type "set",dict:=none,data:= .set #[] 0 (.fresh 0 0 (!Hm w))}).IsList l items:=⟨_,hol',rfl,nl,rfl⟩;unfold Builtin.«set.__init__» noKeywords Builtin.Frozenset.updateFrom;generalize hPI:pyIter=PI
     wp_walk
     subst hPI;refine Dx hl1 ?_;refine Aa (Ft ?_);have hlS:l<s.heap.objs.size:=As hol;have hh3:A.in1.in1.in1.handled=none:=by simp[hh]
     have hneI:l≠(s.heap.push {cls:= .type "set",dict:=none,data:= .set #[] 0 (.fresh 0 0 (!Hm w))}).objs.size:=by rw[Bu];exact Ba (E2 hlS)
     have hSf:s.heap.objs.size ∉ [(s.heap.push {cls:= .type "set",dict:=none,data:= .set #[] 0 (.fresh 0 0 (!Hm w))}).objs.size,l]:=by rw[Bu];simp only[Ag,Af,AC,or_false,not_or];exact⟨Ba (Nat.lt_succ_self _),Nat.ne_of_gt hlS⟩
     have hfr:∀b∈[s.heap.objs.size,(s.heap.push {cls:= .type "set",dict:=none,data:= .set #[] 0 (.fresh 0 0 (!Hm w))}).objs.size],s.heap.get? b=none:=λb hb=>by
      cases e:s.heap.get? b with
      | none=>rfl
      | some o=>
       have:=As e;rw[Bu] at hb;simp only[Ag,AC,or_false] at hb;rcases hb with rfl | rfl
       . exact absurd this (Nat.lt_irrefl _)
       . exact absurd this (Nat.not_lt.mpr (Nat.le_succ _))
     have W:=(Walks.list (prog:=prog) (w:=w) hh3 (s.heap.push {cls:= .type "set",dict:=none,data:= .set #[] 0 (.fresh 0 0 (!Hm w))}).objs.size l hneI items).toS;rw[hsz] at W;refine ze8 ts W s.heap.objs.size hSf (by show A.units+1+1+1+20<cLine;lia) (h0:=s.heap) hfr hi nd hb (ts.length - 0) 0 _ (by lia) (AK _)
      ⟨⟨_,Ak _ rfl,rfl,rfl⟩,(hl1.push _)⟩ (zdT (Ad _ hS)) (λb o e=>Ad _ (Ad _ e)) ?hR
     case hR=>
      intro s' hm hS';obtain⟨h',g',d',tk',os'⟩:=s';have eg:g'=s.gens:=hm.gens;have ed:d'=s.drawn:=hm.drawn;have eo:os'=s.os:=hm.os;subst eg;subst ed;subst eo;show wpAny _ _ _ _ _ _;refine Ab ?_;show wpAny _ _ (ret Value.none) _ _ _;refine Ab ⟨rfl,h',tk',rfl,hS',λb o hb e=>?_⟩;have hb1:b≠s.heap.objs.size:=Ba hb;have hb2:b≠(s.heap.push {cls:= .type "set",dict:=none,data:= .set #[] 0 (.fresh 0 0 (!Hm w))}).objs.size:=by rw[Bu];exact Ba (E2 hb)
      exact hm.heap b o (by simp only[Ag,Af,AC,or_false,not_or];exact⟨hb1,hb2⟩) (Ad _ (Ad _ e))
   . cases r₂ with
     | error e=>exact hr₂
     | ok fl₂=>
      cases fl₂ with
      | ret r=>
       obtain⟨rfl,h',tk,rfl,hS',hk'⟩:=hr₂
       repeat (any_goals (first | assumption | wp_step))
       exact h _ _ hS' hk'
      | _=>exact hr₂.elim
  | _=>exact hr.elim
end
noncomputable def WI(T:TD):TD:=λσ hd k e=>T σ hd (λx h1=>match seqL h1 x with
 | some ds=>(∀d∈ds,G3 true d=true)/\ds.Nodup/\ds.length<=63/\k (.int ds.length) h1
 | none=>False) e
section
variable{X:Cx}{xr:XR}{e:Expr}{T:TD}{pos p2 p3 p4:Pos}
theorem Zu(hr:GE X)(hc:X.calm=true)(he:DE X xr e T)(hg:Gl X "len")(hm:X.mg "len"=none)(hg2:Gl X "set")(hm2:X.mg "set"=none)
 (h1:Ai [e] X.env=(false,eval e X.env)::Ai [] X.env:=by rfl)
 (h2:Ai [.Call (.Name "set" p2) [e] [] p3] X.env=(false,eval (.Call (.Name "set" p2) [e] [] p3) X.env)::Ai [] X.env:=by rfl)
 (h3:(backTo p3 (Ai [] X.env)).any (·.1)=false:=by rfl) (h4:(backTo pos (Ai [] X.env)).any (·.1)=false:=by rfl):
 DE X xr (.Call (.Name "len" p4) [.Call (.Name "set" p2) [e] [] p3] [] pos) (WI T):= .mk λ{pins vl s σ H k ex}I h hx=>by
 refine Bq (Js I hg hm Np ?_ (by decide) (by decide));refine PyProof.Rows.callWith_builtin1 ?_ h2 h4;rw[h2];show X.W (spliced ((false,eval (.Call (.Name "set" p2) [e] [] p3) X.env)::backTo pos (Ai [] X.env))) _ _;refine BW ?_;refine Bq (Js I hg2 hm2 Vc ?_ (by decide) (by decide));refine PyProof.Rows.callWith_type1 ?_ h1 h3;rw[h1];refine BW (FO (he I h hx) λu s1 ⟨x,H1,I1,q⟩=>CJ ?_);cases e1:seqL H1.hd x with
 | none=>rw[e1] at q;exact q.elim
 | some ds=>
  rw[e1] at q;obtain⟨hk,nd,hn,q⟩:=q;obtain⟨a,us,n,rfl,w,r,z⟩:=I1.seqL I1.hv e1;have ll:=r.length;refine zbS (I1.ok.hd hc) hr (items:=us.toArray) ⟨_,w,rfl,n,rfl⟩ (ts:=ds) (by rw[Ay];lia) (λi v hv=>?_) nd hn λh' tk hS kp=>?_
  . obtain⟨d,e2,rd⟩:=r.get' (i:=i) (u:=v) (by simpa using hv);have ik:=hk d (AD e2);cases d with
    | tup xs=> rw[G3,Ae,Ae] at ik;have kv:=Mv (.tup xs) (by rw[isK];exact ik.1.2) rd;cases rd with | tup p r2=>exact⟨_,_,rfl,e2,kv,by rw[Gz];have:=CF.mp ik.2;lia⟩
    | _=>cases ik
  . have I2:=I1.tl.kept (h':=h') (t':=tk) λb o e=>kp b o (As e) e;refine CJ ?_;obtain⟨es,ep,t,ho,T,hsz,_⟩:=hS;refine call_len_set ho ⟨rfl,rfl,rfl⟩ rfl T.fits (by lia) ?_;rw[hsz];exact(I2.tok (tk+1+1)).ret (.int _ _) q
end
theorem V1:AN "all"=some (.builtin "all"):=by decide+kernel
theorem V0:AN "abs"=some (.builtin "abs"):=by decide+kernel
theorem V3:AN "max"=some (.builtin "max"):=by decide+kernel
theorem Vb:AN "min"=some (.builtin "min"):=by decide+kernel
theorem R_:AN "isinstance"=some (.builtin "isinstance"):=by decide+kernel
section
variable{X:Cx}{xr:XR}{p pos:Pos}{e:Expr}{es:List Expr}{T:G6}
theorem Vs(hg:Gl X "len")(hm:X.mg "len"=none)(ha:DA X xr (e::es) T)(he:Ai (e::es) X.env=(false,eval e X.env)::Ai es X.env:=by rfl)(hpl:(backTo pos (Ai es X.env)).any (·.1)=false:=by rfl):DE X xr (.Call (.Name "len" p) (e::es) [] pos) (Gh GO T):=JX Yl hg hm Np ha (by decide) (by decide) he hpl
theorem XM(hg:Gl X "tuple")(hm:X.mg "tuple"=none)(ha:DA X xr (e::es) T)(he:Ai (e::es) X.env=(false,eval e X.env)::Ai es X.env:=by rfl)(hpl:(backTo pos (Ai es X.env)).any (·.1)=false:=by rfl):DE X xr (.Call (.Name "tuple" p) (e::es) [] pos) (Gh KQ T):=QS ZW hg hm Rn ha (by decide) (by decide) he hpl
theorem Vm(hc:X.calm=true)(hg:Gl X "all")(hm:X.mg "all"=none)(ha:DA X xr (e::es) T)(he:Ai (e::es) X.env=(false,eval e X.env)::Ai es X.env:=by rfl)(hpl:(backTo pos (Ai es X.env)).any (·.1)=false:=by rfl):DE X xr (.Call (.Name "all" p) (e::es) [] pos) (Gh (Jj (·.all id)) T):=JX (Yk hc) hg hm V1 ha (by decide) (by decide) he hpl
theorem Vk(hg:Gl X "abs")(hm:X.mg "abs"=none)(ha:DA X xr (e::es) T)(he:Ai (e::es) X.env=(false,eval e X.env)::Ai es X.env:=by rfl)(hpl:(backTo pos (Ai es X.env)).any (·.1)=false:=by rfl):DE X xr (.Call (.Name "abs" p) (e::es) [] pos) (Gh Mb T):=JX Yj hg hm V0 ha (by decide) (by decide) he hpl
theorem Vt(hc:X.calm=true)(hg:Gl X "max")(hm:X.mg "max"=none)(ha:DA X xr (e::es) T)(he:Ai (e::es) X.env=(false,eval e X.env)::Ai es X.env:=by rfl)(hpl:(backTo pos (Ai es X.env)).any (·.1)=false:=by rfl):DE X xr (.Call (.Name "max" p) (e::es) [] pos) (Gh Jd T):=JX (Y1 hc) hg hm V3 ha (by decide) (by decide) he hpl
theorem Vu(hc:X.calm=true)(hg:Gl X "min")(hm:X.mg "min"=none)(ha:DA X xr (e::es) T)(he:Ai (e::es) X.env=(false,eval e X.env)::Ai es X.env:=by rfl)(hpl:(backTo pos (Ai es X.env)).any (·.1)=false:=by rfl):DE X xr (.Call (.Name "min" p) (e::es) [] pos) (Gh II T):=JX (Y2 hc) hg hm Vb ha (by decide) (by decide) he hpl
theorem WL(hg:Gl X "isinstance")(hm:X.mg "isinstance"=none)(ha:DA X xr (e::es) T)(he:Ai (e::es) X.env=(false,eval e X.env)::Ai es X.env:=by rfl)(hpl:(backTo pos (Ai es X.env)).any (·.1)=false:=by rfl):DE X xr (.Call (.Name "isinstance" p) (e::es) [] pos) (Gh Pf T):=JX Yy hg hm R_ ha (by decide) (by decide) he hpl
theorem Ys(hg:Gl X "isinstance")(hm:X.mg "isinstance"=none)(ha:DA X xr (e::es) T)(he:Ai (e::es) X.env=(false,eval e X.env)::Ai es X.env:=by rfl)(hpl:(backTo pos (Ai es X.env)).any (·.1)=false:=by rfl):DE X xr (.Call (.Name "isinstance" p) (e::es) [] pos) (Gh N1 T):=JX ZT hg hm R_ ha (by decide) (by decide) he hpl
theorem WS(hg:Gl X "str")(hm:X.mg "str"=none)(ha:DA X xr (e::es) T)(he:Ai (e::es) X.env=(false,eval e X.env)::Ai es X.env:=by rfl)(hpl:(backTo pos (Ai es X.env)).any (·.1)=false:=by rfl):DE X xr (.Call (.Name "str" p) (e::es) [] pos) (Gh LJ T):=QS Y3 hg hm Ps ha (by decide) (by decide) he hpl
theorem WZ(hg:Gl X "list")(hm:X.mg "list"=none)(ha:DA X xr (e::es) T)(he:Ai (e::es) X.env=(false,eval e X.env)::Ai es X.env:=by rfl)(hpl:(backTo pos (Ai es X.env)).any (·.1)=false:=by rfl):DN X xr (.Call (.Name "list" p) (e::es) [] pos) (JM Nb T):=XU Y0 hg hm Qa ha (by decide) (by decide) he hpl
theorem WO{C:Str}{Ca:Addr}{fl:List Str}{k:Nat}{S:FS}(c:ClsD X.K X.mg C Ca fl)(F:∃f fd dv,MtD X.ev X.base k Ca "__len__" ["self"] S [] f fd dv)(hr:Room (k+1) X.A)(hg:Gl X "len")(hm:X.mg "len"=none)(ha:DA X xr (e::es) T)(he:Ai (e::es) X.env=(false,eval e X.env)::Ai es X.env:=by rfl)(hpl:(backTo pos (Ai es X.env)).any (·.1)=false:=by rfl):
 DE X xr (.Call (.Name "len" p) (e::es) [] pos) (Gh (Pg C S) T):=JX (Yz c F hr) hg hm Np ha (by decide) (by decide) he hpl
end
section
variable{X:Cx}{xr:XR}{a b c:Expr}{Ta Tb Tc:TD}{pos:Pos}
theorem Vl(ha:DE X xr a Ta)(hb:DE X xr b Tb):DE X xr (.BinOp a .Add b pos) (FJ Gu Ta Tb):=KH V_ ha hb
theorem UM(ha:DE X xr a Ta)(hb:DE X xr b Tb):DE X xr (.BinOp a .Sub b pos) (FJ HH Ta Tb):=KH V5 ha hb
theorem UD(ha:DE X xr a Ta)(hb:DE X xr b Tb):DE X xr (.BinOp a .Mult b pos) (FJ Ik Ta Tb):=KH Wc ha hb
theorem Vv(ha:DE X xr a Ta)(hb:DE X xr b Tb):DE X xr (.BinOp a .Mod b pos) (FJ IH Ta Tb):=KH Wb ha hb
theorem WK(ha:DE X xr a Ta)(hb:DE X xr b Tb):DE X xr (.BinOp a .FloorDiv b pos) (FJ MY Ta Tb):=KH XG ha hb
theorem UJ(ha:DE X xr a Ta)(hb:DE X xr b Tb):DE X xr (.BinOp a .Pow b pos) (FJ Hh Ta Tb):=KH V4 ha hb
theorem Uv(ha:DE X xr a Ta)(hb:DE X xr b Tb)(hm:behindInMarks .Lt b=false):DE X xr (.Compare a [.Lt] [b] pos) (FJ O6 Ta Tb):=Kf Pj ha hb hm
theorem TG(ha:DE X xr a Ta)(hb:DE X xr b Tb)(hm:behindInMarks .Lt b=false):DT X xr (.Compare a [.Lt] [b] pos) (F_ (FJ O6 Ta Tb)):=Jr Pj ha hb hm
theorem Uu(ha:DE X xr a Ta)(hb:DE X xr b Tb)(hm:behindInMarks .LtE b=false):DE X xr (.Compare a [.LtE] [b] pos) (FJ Kw Ta Tb):=Kf KM ha hb hm
theorem TF(ha:DE X xr a Ta)(hb:DE X xr b Tb)(hm:behindInMarks .LtE b=false):DT X xr (.Compare a [.LtE] [b] pos) (F_ (FJ Kw Ta Tb)):=Jr KM ha hb hm
theorem Ur(ha:DE X xr a Ta)(hb:DE X xr b Tb)(hm:behindInMarks .Gt b=false):DE X xr (.Compare a [.Gt] [b] pos) (FJ MR Ta Tb):=Kf Ph ha hb hm
theorem U4(ha:DE X xr a Ta)(hb:DE X xr b Tb)(hm:behindInMarks .Gt b=false):DT X xr (.Compare a [.Gt] [b] pos) (F_ (FJ MR Ta Tb)):=Jr Ph ha hb hm
theorem U3(ha:DE X xr a Ta)(hb:DE X xr b Tb)(hm:behindInMarks .GtE b=false):DT X xr (.Compare a [.GtE] [b] pos) (F_ (FJ Tw Ta Tb)):=Jr TW ha hb hm
theorem Ut(ha:DE X xr a Ta)(hb:DE X xr b Tb)(hm:behindInMarks .Is b=false):DE X xr (.Compare a [.Is] [b] pos) (FJ (Jg false) Ta Tb):=Kf (Mt false) ha hb hm
theorem TE(ha:DE X xr a Ta)(hb:DE X xr b Tb)(hm:behindInMarks .Is b=false):DT X xr (.Compare a [.Is] [b] pos) (F_ (FJ (Jg false) Ta Tb)):=Jr (Mt false) ha hb hm
theorem WM(ha:DE X xr a Ta)(hb:DE X xr b Tb)(hm:behindInMarks .IsNot b=false):DE X xr (.Compare a [.IsNot] [b] pos) (FJ (Jg true) Ta Tb):=Kf (Mt true) ha hb hm
theorem Wp(ha:DE X xr a Ta)(hb:DE X xr b Tb)(hm:behindInMarks .IsNot b=false):DT X xr (.Compare a [.IsNot] [b] pos) (F_ (FJ (Jg true) Ta Tb)):=Jr (Mt true) ha hb hm
theorem Uq(hr:GE X)(ha:DE X xr a Ta)(hb:DE X xr b Tb)(hm:behindInMarks .Eq b=false):DE X xr (.Compare a [.Eq] [b] pos) (FJ (Ip false) Ta Tb):=Kf (Nk hr false) ha hb hm
theorem U2(hr:GE X)(ha:DE X xr a Ta)(hb:DE X xr b Tb)(hm:behindInMarks .Eq b=false):DT X xr (.Compare a [.Eq] [b] pos) (F_ (FJ (Ip false) Ta Tb)):=Jr (Nk hr false) ha hb hm
theorem TH(hr:GE X)(ha:DE X xr a Ta)(hb:DE X xr b Tb)(hm:behindInMarks .NotEq b=false):DT X xr (.Compare a [.NotEq] [b] pos) (F_ (FJ (Ip true) Ta Tb)):=Jr (Nk hr true) ha hb hm
theorem Vp(hr:GE X)(ha:DE X xr a Ta)(hb:DE X xr b Tb)(hm:behindInMarks .In b=false):DE X xr (.Compare a [.In] [b] pos) (FJ (GN false) Ta Tb):=Kf (Nx hr false) ha hb hm
theorem U_(hr:GE X)(ha:DE X xr a Ta)(hb:DE X xr b Tb)(hm:behindInMarks .In b=false):DT X xr (.Compare a [.In] [b] pos) (F_ (FJ (GN false) Ta Tb)):=Jr (Nx hr false) ha hb hm
theorem Wr(hr:GE X)(ha:DE X xr a Ta)(hb:DE X xr b Tb)(hm:behindInMarks .NotIn b=false):DT X xr (.Compare a [.NotIn] [b] pos) (F_ (FJ (GN true) Ta Tb)):=Jr (Nx hr true) ha hb hm
theorem WN(ha:DE X xr a Ta)(hb:DE X xr b Tb)(hc:DE X xr c Tc)(hm:lastMarks [.LtE,.LtE] [b,c]=false:=by with_unfolding_all rfl):DE X xr (.Compare a [.LtE,.LtE] [b,c] pos) (Mx Kw Kw Ta Tb Tc):=Yr KM KM ha hb hc hm
theorem Wq(ha:DE X xr a Ta)(hb:DE X xr b Tb)(hc:DE X xr c Tc)(hm:lastMarks [.LtE,.LtE] [b,c]=false:=by with_unfolding_all rfl):DT X xr (.Compare a [.LtE,.LtE] [b,c] pos) (F_ (Mx Kw Kw Ta Tb Tc)):=XZ KM KM ha hb hc hm
end
end Lake
namespace Att
open PySem PySem.W PySem.Calls PyProof.Rows
theorem zce{P:Params}{h:Heap}:∀(ns:List Int)(vs:List Value),WellAll P h vs (ns.map WData.int)->IntsAre vs ns:=by
 intro ns
 induction ns with
 | nil=> intro vs w;rw[Bj] at w;cases w;exact .nil
 | cons n ns ih=>
  intro vs w;rw[Aj] at w;cases w with
  | cons a b=> cases a;exact .cons _ _ (ih _ b)
theorem ZK{l:OpenLaw}{n:Nat}(hn:l.most=some n){P:Params}{h:Heap}{args:List WData}{vals:List Value}
 (hpre:l.row.toRowW.claim.pre args=true) (hwl:WellAll P h vals args):
 ∃a vs ns,vals=[Value.ref a]/\args=[WData.list (ns.map WData.int)]/\h.get? a=some {cls:= .type "list",data:= .seq vs.toArray}/\IntsAre vs ns/\ns.length<=n:=by
 have hsh:WShape.hasAll [] args [.list .int]=true:=(pre_splitW hpre).1;have hc:l.pre.holds [] {args:=args}=true:=(pre_splitW hpre).2;obtain⟨d,r,rfl,h1,h2⟩:=hasAllW_cons hsh;obtain rfl:=hasAllW_nil h2;obtain⟨xs,rfl,h3⟩:=hasW_list h1;obtain⟨ns,rfl⟩:=items_int h3;have hlen:ns.length<=n:=by
  unfold OpenLaw.pre at hc;have h4:(WTm.not (.lt (.lit (.int (n:Int))) (.len (.arg 0)))).holds [] {args:=[.list (ns.map .int)]}=true:=by have h4:=(holds_andW hc).1;rw[hn] at h4;exact h4
  have h5:=condW_of h4 (w_not (w_lt w_lit (w_len_list (w_arg rfl))));rw[Ac] at h5;refine Nat.le_of_not_lt λq=>?_;have q':(n:Int)<((ns.length:Nat):Int):=by lia
  first
   | (rw[decide_eq_true q'] at h5;exact absurd h5 (by decide))
   | (simp at h5;lia)
 cases hwl with
 | cons w1 w2=>
  cases w2;cases w1 with
  | list ho hall=>exact⟨_,_,ns,rfl,rfl,ho,zce ns _ hall,hlen⟩
theorem ZY(l:OpenLaw)(args:List WData):l.row.toRowW.claim.post args (.bool true) args=true:=
 postW_of (r:=l.row.toRowW) (X:=(true==true))
  (show WShape.has [] (.bool true) .bool=true by first | rfl | decide | simp[WShape.has,WShape.arms,WShape.armsAll])
  (show(WTm.eq .res (.lit (.bool true))).value [] {args:=args,res:=some (.bool true),after:=args}=some (.bool (true==true)) from w_eq_bool (w_res rfl) w_lit) rfl
theorem attach_call{l:OpenLaw}{n:Nat}{q:AM}{loose:List Str}{XP:(Str->Option Value)->Heap->Prop}{YP:World->Heap->Prop}{d:DefRec}
 (hn:l.most=some n) (hdf:d.params.defaults=[])
 (call:∀(w:World)(s₀ s₁:Shared)(mg mb:Str->Option Value)(fa:Addr)(o:Obj)(pm cd doc:Value)(a:Addr)(vs:List Value)(ns:List Int),
  Ground q loose [] XP w s₀ mg mb s₁.heap->YP w s₁.heap->
  s₁.heap.get? fa=some o->o.data= .func (docDef d.name d.params d.body d.scope pm cd doc)->s₁.heap.CodeRec cd d.name->mg d.name=some (.ref fa)->
  s₁.heap.get? a=some {cls:= .type "list",data:= .seq vs.toArray}->IntsAre vs ns->ns.length<=n->s₁.gens=#[]->
  codeAny (model l.prog w) callerA (.call (.ref fa) ⟨[.ref a],[]⟩) (λr s'=>r= .ok (.ret (.bool true))/\OldK s₁.heap s'.heap/\s'.os=s₁.os/\AllBare s'.gens) s₁):
 WalkO q loose XP YP l.row.toRowW d [] (λf vs=>PySem.call f vs):=by
 intro w s₀ s₁ mg mb G Y fa o pm cd doc dV kV ho hd hcd hD hmg hg args vals as hpre hlay hrd hwl hlo;obtain rfl:dV= .none:=Dflts.none hD hdf;obtain rfl:kV= .none:=Dflts.noKw hD;obtain⟨a,vs,ns,rfl,rfl,hobj,hints,hlen⟩:=ZK hn hpre hwl;refine enter_call (BP (call w s₀ s₁ mg mb fa o pm cd doc a vs ns G Y ho (fd_plain hd) hcd hmg hobj hints hlen hg) λr s' hq=>?_);obtain⟨rfl,h2,h3,h4⟩:=hq;exact⟨.inl ⟨.bool true,.bool true,[],rfl,λ_=>rfl,.bool true,ZY l _,λ_=>⟨List.Pairwise.nil,λ_ hm=>(nomatch hm)⟩⟩,h2,h3,h4⟩
end Att
namespace Lake
inductive AllL{α:Type}(φ:α->Prop):List α->Prop
 | nil:AllL φ []
 | cons {a:α} {l:List α}:φ a->AllL φ l->AllL φ (a::l)
theorem AllL.mem{α:Type}{φ:α->Prop}:∀{l:List α},AllL φ l->∀a∈l,φ a
 | _,.cons h _,_,.head _=>h
 | _,.cons _ t,_,.tail _ m=>t.mem _ m
theorem AllL.at{α:Type}{φ:α->Prop}{l:List α}(h:AllL φ l)(i:Nat){a:α}(e:l[i]?=some a):φ a:=h.mem a (AD e)
theorem AllL.imp{α:Type}{φ ψ:α->Prop}(f:∀a,φ a->ψ a):∀{l:List α},AllL φ l->AllL ψ l
 | _,.nil=> .nil
 | _,.cons h t=> .cons (f _ h) (t.imp f)
inductive Kd where
 | fn | mt (C:Str) | mk (C:Str)
structure RwD where
 x:Str
 q:Str
 c:Kd
 ps:List Str
 dd:List D
 N:List Str
 st:Stmt
 S:FS
 k:Nat
structure Prg where
 tb:List RwD
 cl:List (Str×List Str)
 cs:List (Str×Int)
noncomputable def JN(mg:Str->Option Value)(C:Str):Addr:=match mg C with | some (.ref a)=>a | _=>0
theorem Nq{mg:Str->Option Value}{C:Str}{a:Addr}(h:mg C=some (.ref a)):JN mg C=a:=by unfold JN;rw[h]
noncomputable def NH:List Str:=["len","range","isinstance","int","bool","tuple","list","max","min","all","zip","str","dict","sorted","set","any","sum","enumerate","repr","ord","chr","abs","reversed","type"]
section
variable(G:Ev)(base:Heap)
noncomputable def TC(K:AT)(mg:Str->Option Value)(x:Str)(f:Addr):Kd->Prop
 | .fn=>CP K (.ref f)=true/\mg x=some (.ref f)
 | .mt C=>Meth K (JN mg C) x f
 | .mk C=>Mk K (JN mg C) f
noncomputable def DfOk(K:AT)(r:RwD)(fd:BL):Prop:=∃dv,Cst r.dd dv/\∀j,j<=dv.length->Binds K fd r.ps (dv.drop j)
noncomputable def U8(r:RwD):Prop:=∃f fd,FnOk G base r.k f fd r.ps r.S/\TC G.K G.mg r.x f r.c/\DfOk G.K r fd
structure Gd(p:Prg)(n:Nat):Prop where
 B:Bl G.mg
 row:∀r∈p.tb,r.k<n->U8 G base r
 cl:∀c∈p.cl,ClsD G.K G.mg c.1 (JN G.mg c.1) c.2
 cs:∀c∈p.cs,∃t,G.mg c.1=some (.int c.2 t)
structure FunA(K:AT)(x q:Str)(st:Stmt)(dv:Value)(f:Addr)(fd:BL):Prop where
 ex:∃(oc:Value)(od:Option Addr)(kV doc pm:Value)(an:Option Addr)(cdv ct:Value)(osl:Array (Option Value)),
  fd=BQ x q (IX st) (Ib st) (GH st) dv kV doc pm an cdv ct/\K.lookup f=some ⟨oc,od,.func fd,osl⟩/\Fp K cdv q=true
 kp:CP K (.ref f)=true
noncomputable def DvR(K:AT)(dv:Value):List D->Prop
 | []=>dv= .none
 | d::dd=>∃T o m its,dv= .ref T/\K.lookup T=some o/\o.data= .seq (C0 its) m/\Cst (d::dd) its
noncomputable def Md(K:AT)(r:RwD)(f:Addr)(fd:BL):Prop:=∃dv,FunA K r.x r.q r.st dv f fd/\DvR K dv r.dd
variable(K:AT)
open PySem.W (nsIn) in
noncomputable def Lm(r:RwD):Prop:=∃f fd,Md K r f fd/\match r.c with
 | .fn=>nsIn K Br r.x=some (some (.ref f))
 | .mt C=>∃Ca,nsIn K Br C=some (some (.ref Ca))/\Meth K Ca r.x f
 | .mk C=>∃Ca,nsIn K Br C=some (some (.ref Ca))/\Mk K Ca f
noncomputable def Mh(c:Str×List Str):Prop:=∃a,Du K Br c.1=some (some (.ref a))/\Cls K a/\AllL (λf=>BX K (.ref a) f=some none) c.2
noncomputable def Mg(c:Str×Int):Prop:=∃t,Du K Br c.1=some (some (.int c.2 t))
noncomputable def OU(p:Prg):Prop:=AllL (Lm K) p.tb/\AllL (Mh K) p.cl/\AllL (Mg K) p.cs/\AllL (λx:Str=>Du K Br x=some none) NH
end
noncomputable def Ge(p:Prg)(r:RwD):Prop:=∀(G:Ev)(base:Heap),Gd G base p r.k->∀f fd,Md G.K r f fd->(r.c= .fn->G.mg r.x=some (.ref f))->FnOk G base r.k f fd r.ps r.S/\DfOk G.K r fd
theorem FnOk.mono{G:Ev}{base:Heap}{j k:Nat}{f:Addr}{fd:BL}{ps:List Str}{S:FS}(F:FnOk G base j f fd ps S)(h:j<=k):FnOk G base k f fd ps S:=⟨F.len,λA outer s H args us ds kk e hr=>F.run A outer s H args us ds kk e (hr.mono h)⟩
section
variable{G:Ev}{base:Heap}{p:Prg}{n:Nat}
theorem UB{mg:Str->Option Value}(h:AllL (λx:Str=>mg x=none) NH):Bl mg:=by constructor<;>exact h.mem _ (by simp[NH])
theorem QY{h:Heap}(X:G.K.In h)(M:h.Ns Br G.mg)(I:OU G.K p)(ok:AllL (Ge p) p.tb):∀n,Gd G base p n
 | 0=>⟨UB (I.2.2.2.imp λx e=>PySem.W.mg_none_of X M e),λ_ _ z=>absurd z (DY _),λc hc=>by obtain⟨a,e,k,n⟩:=I.2.1.mem c hc;have m:=Da X M e;rw[Nq m];exact⟨k,λf hf=>n.mem f hf,m⟩,λc hc=>let⟨t,e⟩:=I.2.2.1.mem c hc;⟨t,Da X M e⟩⟩
 | n+1=>by
  have g:=QY X M I ok n;refine⟨g.B,λr hr hk=>?_,g.cl,g.cs⟩;by_cases lt:r.k<n
  . exact g.row r hr lt
  . have e:r.k=n:=by lia
    obtain⟨f,fd,F,a⟩:=I.1.mem r hr;have g':Gd G base p r.k:=e ▸ g;have hm:r.c= .fn->G.mg r.x=some (.ref f):=λec=>by rw[ec] at a;exact Da X M a
    obtain⟨f1,f2⟩:=ok.mem r hr G base g' f fd F hm;refine⟨f,fd,f1,?_,f2⟩;unfold TC;cases ec:r.c with
    | fn=>exact⟨F.choose_spec.1.kp,hm ec⟩
    | mt C=>rw[ec] at a;obtain⟨Ca,e1,e2⟩:=a;simp only;rw[Nq (Da X M e1)];exact e2
    | mk C=>rw[ec] at a;obtain⟨Ca,e1,e2⟩:=a;simp only;rw[Nq (Da X M e1)];exact e2
theorem DfOk.all{K:AT}{r:RwD}{fd:BL}(h:DfOk K r fd):Binds K fd r.ps []:=by
 obtain⟨dv,_,b⟩:=h;have:=b dv.length (Al _)
 rwa [E9] at this
theorem Cst.drop:∀{a:List D}{c:List Value}(j:Nat),Cst a c->Cst (a.drop j) (c.drop j)
 | _,_,0,h=>h
 | _,_,_+1,.nil=> .nil
 | _,_,j+1,.non h=>h.drop j
 | _,_,j+1,.bl _ h=>h.drop j
 | _,_,j+1,.int _ _ h=>h.drop j
theorem Cst.length:∀{a:List D}{c:List Value},Cst a c->c.length=a.length
 | _,_,.nil=>rfl
 | _,_,.non h=>congrArg (· +1) h.length
 | _,_,.bl _ h=>congrArg (· +1) h.length
 | _,_,.int _ _ h=>congrArg (· +1) h.length
section
variable{x q C:Str}{ps N:List Str}{dd:List D}{st:Stmt}{S:FS}{k:Nat}(g:Gd G base p n)(i:Nat)
include g
theorem Gd.f(h:p.tb[i]?=some ⟨x,q,.fn,ps,dd,N,st,S,k⟩)(hk:k<n:=by decide):∃f fd,FnD G base k x ps S f fd:=
 let⟨f,fd,a,c,b⟩:=g.row _ (AD h) hk;⟨f,fd,a,b.all,c.1,c.2⟩
theorem Gd.m(h:p.tb[i]?=some ⟨x,q,.mt C,ps,dd,N,st,S,k⟩)(hk:k<n:=by decide):∃f fd dv,MtD G base k (JN G.mg C) x ps S [] f fd dv:=
 let⟨f,fd,a,c,b⟩:=g.row _ (AD h) hk;⟨f,fd,[],a,b.all,c,.nil⟩
theorem Gd.mx(j:Nat)(h:p.tb[i]?=some ⟨x,q,.mt C,ps,dd,N,st,S,k⟩)(hj:j<=dd.length:=by decide)(hk:k<n:=by decide):∃f fd dv,MtD G base k (JN G.mg C) x ps S (dd.drop j) f fd dv:=
 let⟨f,fd,a,c,dv,d,e⟩:=g.row _ (AD h) hk;⟨f,fd,dv.drop j,a,e j (d.length ▸ hj),c,d.drop j⟩
theorem Gd.mki(h:p.tb[i]?=some ⟨x,q,.mk C,ps,dd,N,st,S,k⟩)(hk:k<n:=by decide):∃f fd,MkD G base k (JN G.mg C) ps S f fd:=
 let⟨f,fd,a,c,b⟩:=g.row _ (AD h) hk;⟨f,fd,a,b.all,c⟩
theorem Gd.c{fs:List Str}(h:p.cl[i]?=some (C,fs)):ClsD G.K G.mg C (JN G.mg C) fs:=g.cl _ (AD h)
theorem Gd.ct{v:Int}(h:p.cs[i]?=some (x,v)):∃t,G.mg x=some (.int v t):=g.cs _ (AD h)
end
theorem Gi{N P:List Str}{sc:Scope}(h1:sc.kind= .function:=by rfl)(h2:sc.isCoroutine=false:=by rfl)(h3:sc.isGenerator=false:=by rfl)(h4:N.Nodup:=by decide+kernel)(h5:N.take P.length=P:=by rfl)(h6:∀x∈P,sc.names.lookup x=some .local\/sc.names.lookup x=some .cell:=by decide+kernel)(h7:∀y∈sc.names,y.2≠ .free:=by decide+kernel):FnScope N P sc:=⟨h1,h2,h3,h4,h5,h6,h7⟩
noncomputable def JQ(x q:Str)(ps:List Str)(st:Stmt):Prop:=∀(kV doc pm:Value)(an:Option Addr)(cdv ct:Value)(us:List Value),us.length=ps.length->bindArgs (BQ x q (IX st) (Ib st) (GH st) .none kV doc pm an cdv ct) ⟨us,[]⟩=pure (ps.zip us)
noncomputable def BdM(x q:Str)(ps:List Str)(st:Stmt)(n:Nat):Prop:=∀j,j<=n->∀(T:Addr)(kV doc pm:Value)(an:Option Addr)(cdv ct:Value)(ds us:List Value),ds.length=n->us.length+n=ps.length+j->
 ∃k:Option (Array Value)->Sem (List (Str×Value)),bindArgs (BQ x q (IX st) (Ib st) (GH st) (.ref T) kV doc pm an cdv ct) ⟨us,[]⟩=seqItems? (.ref T)>>=k/\k (some ds.toArray)=pure (ps.zip (us++ds.drop j))
section
variable{x q:Str}{c:Kd}{ps N:List Str}{dd:List D}{st:Stmt}{S:FS}{k:Nat}{T:GC}{f:Addr}{fd:BL}{dv:Value}
theorem FunA.okD(F:FunA G.K x q st dv f fd)(sc:FnScope N ps (GH st))(len:∀ds h k e,S ds h k e->ds.length=ps.length)
 (hb:∀cdv A outer s H e,Room k (HM G base N q st f cdv A outer s H e).A->DSs (HM G base N q st f cdv A outer s H e) (Lg (Kn e)) (Ib st) T)
 (rd:∀ds h k e,S ds h k e->T (HR k e) (Ju N ds) h):FnOk G base (k+1) f fd ps S:=by
 obtain⟨oc,od,kV,doc,pm,an,cdv,ct,osl,rfl,lk,hcd⟩:=F.ex;exact TJ lk hcd sc len (λA outer s H e hr=>hb cdv A outer s H e hr) rd
theorem FunA.bd{K:AT}(F:FunA K x q st .none f fd)(h:JQ x q ps st):Binds K fd ps []:=by obtain⟨oc,od,kV,doc,pm,an,cdv,ct,osl,rfl,lk,hcd⟩:=F.ex;exact .all (h kV doc pm an cdv ct)
theorem Gk(sc:FnScope N ps (GH st))(len:∀ds h k e,S ds h k e->ds.length=ps.length)(bd:JQ x q ps st)
 (hb:∀{G base f cdv A outer s H e},Gd G base p (k+1)->Room k (HM G base N q st f cdv A outer s H e).A->N.Nodup->DSs (HM G base N q st f cdv A outer s H e) (Lg (Kn e)) (Ib st) T)
 (rd:∀ds h k e,S ds h k e->T (HR k e) (Ju N ds) h):Ge p ⟨x,q,c,ps,[],N,st,S,k+1⟩:=λG base g f fd ⟨dv,F,e⟩ _=>by
 cases e;exact⟨F.okD sc len (λ_ _ _ _ _ _ hr=>hb g hr sc.nd) rd,[],.nil,λj _=>by rw[List.drop_nil];exact F.bd bd⟩
theorem O5{d:D}(sc:FnScope N ps (GH st))(len:∀ds h k e,S ds h k e->ds.length=ps.length)(bd:BdM x q ps st (dd.length+1))
 (hb:∀{G base f cdv A outer s H e},Gd G base p (k+1)->Room k (HM G base N q st f cdv A outer s H e).A->N.Nodup->DSs (HM G base N q st f cdv A outer s H e) (Lg (Kn e)) (Ib st) T)
 (rd:∀ds h k e,S ds h k e->T (HR k e) (Ju N ds) h):Ge p ⟨x,q,c,ps,d::dd,N,st,S,k+1⟩:=λG base g f fd ⟨_,F,t,o,m,its,ev,lt,ld,cs⟩ _=>by
 subst ev;refine⟨F.okD sc len (λ_ _ _ _ _ _ hr=>hb g hr sc.nd) rd,its,cs,λj hj=>?_⟩;obtain⟨oc,od,kV,doc,pm,an,cdv,ct,osl,rfl,lk,hcd⟩:=F.ex;intro s us hK hl;have hn:its.length=dd.length+1:=cs.length;rw[Ah,CY] at hl;have hl:us.length+(its.length - j)=ps.length:=hl;obtain⟨kk,e1,e2⟩:=bd j (hn ▸ hj) t kV doc pm an cdv ct its us hn (by lia);exact PySem.W.binds_K hK rfl lt ld e1 e2
theorem LR(F:FunA G.K x x st .none f fd)(sc:FnScope N ps (GH st))(b:Binds G.K fd ps [])(M:G.mg x=some (.ref f))(L:Nat)(sp:Nat->FS)
 (step:∀n S0,(∀m,n=m+1->S0=sp m)->(∃f fd,FnD G base (L+1+n) x ps S0 f fd)->FnOk G base (L+1+n+1) f fd ps (sp n)):∀n,FnOk G base (L+1+n+1) f fd ps (sp n)
 | 0=>step 0 (λ_ _ _ _=>False) (λm z=>by cases z) ⟨f,fd,⟨λ_ _ _ _ h=>h.elim,λ_ _ _ _ _ _ _ _ _ _ _ _ _ h=>h.elim⟩,b,F.kp,M⟩
 | n+1=>step (n+1) (sp n) (λm z=>by cases z;rfl) ⟨f,fd,LR F sc b M L sp step n,b,F.kp,M⟩
noncomputable def Nj(Dm:Nat)(sp:Nat->FS):FS:=λds h k e=>∃n,n<=Dm/\sp n ds h k e
theorem O4{Dm L:Nat}{Sf:Nat->FS}{Tn:FS->GC}(sc:FnScope N ps (GH st))(len:∀n ds h k e,Sf n ds h k e->ds.length=ps.length)(bd:JQ x x ps st)
 (hb:∀n S0,(∀m,n=m+1->S0=Sf m)->(∀{G base f cdv A outer s H e},(∃f fd,FnD G base (L+1+n) x ps S0 f fd)->Gd G base p (L+Dm+2)->Room (L+1+n) (HM G base N x st f cdv A outer s H e).A->N.Nodup->DSs (HM G base N x st f cdv A outer s H e) (Lg (Kn e)) (Ib st) (Tn S0))/\
  ∀ds h k e,Sf n ds h k e->Tn S0 (HR k e) (Ju N ds) h):Ge p ⟨x,x,.fn,ps,[],N,st,Nj Dm Sf,L+Dm+2⟩:=λG base g f fd ⟨dv,F,e⟩ hm=>by
 cases e;have b:=F.bd bd;have all:=LR (base:=base) F sc b (hm rfl) L Sf λn S0 hS FF=>by obtain⟨h1,h2⟩:=hb n S0 hS;exact F.okD sc (len n) (λ_ _ _ _ _ _ hr=>h1 FF g hr sc.nd) h2
 refine⟨⟨λds h k e ⟨n,_,q⟩=>len n ds h k e q,λA outer s H args us ds kk e hr e0 bb r ⟨n,hn,q⟩=>?_⟩,[],.nil,λj _=>by rw[List.drop_nil];exact b⟩;exact((all n).mono (by lia)).run A outer s H args us ds kk e hr e0 bb r q
end
end
section
variable{K:AT}
theorem M1{x q:Str}{st:Stmt}{dv:Value}{f:Addr}{oc:Value}{od an:Option Addr}{osl:Array (Option Value)}{kV doc pm cdv ct:Value}(l:K.lookup f=some ⟨oc,od,.func (BQ x q (IX st) (Ib st) (GH st) dv kV doc pm an cdv ct),osl⟩)
 (c:Fp K cdv q=true) (h:CP K (.ref f)=true):FunA K x q st dv f (BQ x q (IX st) (Ib st) (GH st) dv kV doc pm an cdv ct):=⟨⟨oc,od,kV,doc,pm,an,cdv,ct,osl,rfl,l,c⟩,h⟩
open PySem.W (nsIn findIn isFn codeIn keepIn makesIn) in
theorem row_fn{x:Str}{ps N:List Str}{st:Stmt}{S:FS}{k:Nat}{f:Addr}{oc:Value}{od an:Option Addr}{osl:Array (Option Value)}{kV doc pm cdv ct:Value}(a:nsIn K Br x=some (some (.ref f)))(l:K.lookup f=some ⟨oc,od,.func (BQ x x (IX st) (Ib st) (GH st) .none kV doc pm an cdv ct),osl⟩)
 (c:codeIn K cdv x=true) (h:keepIn K (.ref f)=true):Lm K ⟨x,x,.fn,ps,[],N,st,S,k⟩:=⟨f,_,⟨_,M1 l c h,rfl⟩,a⟩
open PySem.W (nsIn findIn isFn codeIn keepIn makesIn) in
theorem row_mt{x q C:Str}{ps N:List Str}{st:Stmt}{S:FS}{k:Nat}{f Ca:Addr}{oc:Value}{od an:Option Addr}{osl:Array (Option Value)}{kV doc pm cdv ct:Value}(a:nsIn K Br C=some (some (.ref Ca)))(b:findIn K (.ref Ca) x=some (some (.ref f)))(l:K.lookup f=some ⟨oc,od,.func (BQ x q (IX st) (Ib st) (GH st) .none kV doc pm an cdv ct),osl⟩)
 (c:codeIn K cdv q=true) (h:keepIn K (.ref f)=true) (i:isFn K (.ref f)=true):Lm K ⟨x,q,.mt C,ps,[],N,st,S,k⟩:=⟨f,_,⟨_,M1 l c h,rfl⟩,Ca,a,b,i,h⟩
open PySem.W (nsIn findIn isFn codeIn keepIn makesIn) in
theorem row_md{x q C:Str}{ps N:List Str}{st:Stmt}{S:FS}{k:Nat}{f Ca T:Addr}{oc oc':Value}{od an od':Option Addr}{osl osl':Array (Option Value)}{kV doc pm cdv ct:Value}{d:D}{dd:List D}{its:List Value}{m:Nat}(a:nsIn K Br C=some (some (.ref Ca)))(b:findIn K (.ref Ca) x=some (some (.ref f)))(l:K.lookup f=some ⟨oc,od,.func (BQ x q (IX st) (Ib st) (GH st) (.ref T) kV doc pm an cdv ct),osl⟩)
 (c:codeIn K cdv q=true) (h:keepIn K (.ref f)=true) (i:isFn K (.ref f)=true) (t:K.lookup T=some ⟨oc',od',.seq (C0 its) m,osl'⟩) (u:Cst (d::dd) its):Lm K ⟨x,q,.mt C,ps,d::dd,N,st,S,k⟩:=⟨f,_,⟨_,M1 l c h,T,_,m,its,rfl,t,rfl,u⟩,Ca,a,b,i,h⟩
open PySem.W (nsIn findIn isFn codeIn keepIn makesIn) in
theorem row_mk{q C:Str}{ps N:List Str}{st:Stmt}{S:FS}{k:Nat}{f Ca:Addr}{oc:Value}{od an:Option Addr}{osl:Array (Option Value)}{kV doc pm cdv ct:Value}(a:nsIn K Br C=some (some (.ref Ca)))(b:findIn K (.ref Ca) "__init__"=some (some (.ref f)))(l:K.lookup f=some ⟨oc,od,.func (BQ "__init__" q (IX st) (Ib st) (GH st) .none kV doc pm an cdv ct),osl⟩)
 (c:codeIn K cdv q=true) (h:keepIn K (.ref f)=true) (i:isFn K (.ref f)=true) (m:makesIn K Ca=true) (o:keepIn K (.ref Ca)=true):Lm K ⟨"__init__",q,.mk C,ps,[],N,st,S,k⟩:=⟨f,_,⟨_,M1 l c h,rfl⟩,Ca,a,m,b,i,o⟩
theorem cs_in{x:Str}{v:Int}{t:Tok}(a:Du K Br x=some (some (.int v t))):Mg K (x,v):=⟨t,a⟩
theorem cl_in{C:Str}{fs:List Str}{a:Addr}(h:Du K Br C=some (some (.ref a)))(h1:PySem.W.plainGet K a Str.empty=true)(h2:PySem.W.hasDictIn K a=true)(h3:PySem.W.plainOver K a=true)(h4:BX K (.ref a) "__setattr__"=some (some (.builtin "object.__setattr__")))
 (n:AllL (λf=>BX K (.ref a) f=some none) fs):Mh K (C,fs):=⟨a,h,⟨h1,h2,h3,h4⟩,n⟩
end
theorem Ts{l:List Str}(h:decide l.Nodup=true):l.Nodup:=of_decide_eq_true h
theorem Yv{X:Cx}{xr:XR}{x:Str}{pos:Pos}{v:Int}(hg:Gl X x)(hm:∃t,X.mg x=some (.int v t))(hd:(x==("__debug__":Str))=false:=by decide):DE X xr (.Name x pos) (dC (.int v)):=WR hg hm hd
theorem Z3{G:Ev}{base:Heap}{N:List Str}{qual:Str}{st:Stmt}{f:Addr}{cdv:Value}{A:Ax}{outer:List Env}{s:Shared}{H:Hx}{e:G9}:PassesOwn (model (HM G base N qual st f cdv A outer s H e).prog (HM G base N qual st f cdv A outer s H e).w) (HM G base N qual st f cdv A outer s H e).A (HM G base N qual st f cdv A outer s H e).env (HM G base N qual st f cdv A outer s H e).xe:=PassesOwn.leaving
noncomputable def Kp:FS:=λds _ k _=>∃ns:List Int,ds=[.lst (ns.map .int)]/\ns.length<=63/\∀h',k (.bl true) h'
theorem Q_{G:Ev}{h:Heap}{H:Hx}:∀{vs:List Value}{ns:List Int},IntsAre vs ns->Rvs G h H (ns.map .int) vs
 | _,_,.nil=> .nil
 | _,_,.cons n t h=> .cons (.int n t) (Q_ h)
theorem Yd{G:Ev}{mb:Str->Option Value}{k:Nat}{fa a:Addr}{fd:BL}{x:Str}{s₁:Shared}{vs:List Value}{ns:List Int}
 (KX:G.K.In s₁.heap) (hns:s₁.heap.Ns Br G.mg) (hb:s₁.heap.Ns builtinsNs mb) (hbb:∀x:Str,x≠"__name__"->mb x=AN x) (hlim:s₁.heap.NoLimit) (hg:s₁.gens=#[])
 (ha:s₁.heap.get? a=some {cls:= .type "list",data:= .seq vs.toArray}) (hi:IntsAre vs ns) (hl:ns.length<=63) (hr:Room k callerA)
 (F:FnOk G s₁.heap k fa fd [x] Kp) (hbind:BindsTo s₁ fd ⟨[.ref a],[]⟩ [(x,.ref a)]):
 codeAny (model G.P G.w) callerA (.call (.ref fa) ⟨[.ref a],[]⟩) (λr s'=>r= .ok (.ret (.bool true))/\OldK s₁.heap s'.heap/\s'.os=s₁.os/\AllBare s'.gens) s₁:=by
 have lv:=hi.length;have e0:Env0 G s₁.heap callerA [] s₁ ⟨λ_=>none,λ_=>none⟩:=⟨rfl,⟨KX,hns,⟨mb,hb,hbb⟩,hlim⟩,λb o e=>⟨e,rfl,rfl⟩,Al _,trivial,λb hb=>absurd (show b∈([]:List Addr) from hb) (by simp),⟨λ_ _ z=>(by cases z),λ_ _ z=>(by cases z)⟩,.of_eq hg⟩;have rv:Rvs G s₁.heap ⟨λ_=>none,λ_=>none⟩ [.lst (ns.map .int)] [.ref a]:= .cons (.lst ⟨⟨rfl,rfl⟩,Lc (by lia),_,_,ha,rfl,rfl,rfl,λ_=>rfl⟩ (Q_ hi)) .nil;refine BP (F.run callerA [] s₁ _ ⟨[.ref a],[]⟩ [.ref a] _ (λd _=>d= .bl true) (λ_ _=>False) hr e0 hbind rv ⟨ns,rfl,hl,λ_=>rfl⟩) λr s' h=>?_;cases r with
 | error e=>obtain⟨_,_,_,_,_,_,_,q⟩:=h;exact q.elim
 | ok fl=>
  cases fl with
  | ret u=> obtain⟨d,H',os,bare,un,_,r,q⟩:=h;subst q;cases r.b;exact⟨rfl,OldK.of_keep λb o e=>(un.im b o e ⟨rfl,rfl⟩).1,os,bare⟩
  | _=>exact E7 h
theorem walkP{l:PySem.W.OpenLaw}{n i k:Nat}{q:AM}{loose:List Str}{XP:(Str->Option Value)->Heap->Prop}{YP:World->Heap->Prop}{d:DefRec}{K:Params->AT}{N:List Str}{st:Stmt}(p:Prg)(ok:AllL (Ge p) p.tb)(hi:p.tb[i]?=some ⟨"law","law",.fn,["script"],[],N,st,Kp,k⟩)(bd:JQ "law" "law" ["script"] st)
 (hn:l.most=some n) (hn2:n<=63) (hdf:d.params.defaults=[]) (hr:Room k callerA) (hd:d.name="law") (hY:∀(w:World)(h:Heap),YP w h->(K w.params).In h)
 (F:∀(w:World)(h:Heap),(K w.params).In h->OU (K w.params) p):PySem.W.WalkO q loose XP YP l.row.toRowW d [] (λf vs=>PySem.call f vs):=by
 refine Att.attach_call hn hdf λw s₀ s₁ mg mb fa o pm cd doc a vs ns G Y ho hd2 hcd hmg hobj hints hlen hg=>?_;have KX:=hY w _ Y;have I:=F w _ KX;obtain⟨f,fd,F1,e⟩:=I.1.at i hi;have m:=Da KX G.T.g e;rw[hd] at hmg;cases hmg.symm.trans m;obtain⟨dv,FF,ev⟩:=id F1;cases ev;have ok1:=ok.at i hi ⟨l.prog,w,K w.params,mg⟩ s₁.heap (QY (G:=⟨l.prog,w,K w.params,mg⟩) KX G.T.g I ok _) fa fd F1 λ_=>m;refine Yd (G:=⟨l.prog,w,K w.params,mg⟩) KX G.T.g G.T.b G.T.builtins G.T.nolimit hg hobj hints (At hlen hn2) hr ok1.1 ?_;obtain⟨oc,od,kV,doc,pm,an,cdv,ct,osl,rfl,_⟩:=FF.ex;exact .of_eq (bd kV doc pm an cdv ct [.ref a] rfl)
noncomputable def Off(as:List Addr)(h h':Hd):Prop:=∀c,c ∉ as->h' c=h c
theorem Off.refl(as:List Addr)(h:Hd):Off as h h:=λ_ _=>rfl
theorem Off.trans{as:List Addr}{a b c:Hd}(x:Off as a b)(y:Off as b c):Off as a c:=λd hd=>(y d hd).trans (x d hd)
theorem Off.put{as:List Addr}{h h':Hd}{a:Addr}{o:OD}(x:Off as h h')(m:a∈as):Off as h (put h' a o):=λc hc=>by rw[FR (by rintro rfl;exact hc m)];exact x c hc
theorem Off.more{as bs:List Addr}{h h':Hd}(x:Off as h h')(s:∀a∈as,a∈bs):Off bs h h':=λc hc=>x c λm=>hc (s c m)
section
variable{i:Nat}{σ:Sd}{hd:Hd}{k:DK}{e:G9}{d:D}{C f:Str}{a:Addr}{fs:List (Str×D)}
theorem FI(h:IB σ i=some d)(q:k d hd):FN i σ hd k e:=by unfold FN;rw[h];exact q
theorem JA{k:Addr->List (Str×D)->Prop}(h:hd a=some (.ins C fs))(q:k a fs):Kb C (.ref a) hd k:=by unfold Kb;simp only[h];exact⟨trivial,q⟩
theorem M6{t:Bool}{ks vs:List D}{k:Addr->Bool->List D->List D->Prop}(h:hd a=some (.dct t ks vs))(q:k a t ks vs):HX (.ref a) hd k:=by unfold HX;simp only[h];exact q
theorem JT{xs:List D}{k:Addr->List D->Prop}(h:hd a=some (.lst xs))(q:k a xs):Kc (.ref a) hd k:=by unfold Kc;simp only[h];exact q
theorem Ha(h:IB σ i=some (.ref a))(ho:hd a=some (.ins C fs))(hf:fs.lookup f=some d)(q:k d hd):Hl C f (FN i) σ hd k e:=FI h (JA ho (by simp only[hf];exact q))
theorem Kj{t:Bool}{ks vs:List D}{k:List D->(Hd->Prop)->Hd->Prop}(h:hd a=some (.dct t ks vs))(q:∀ep,k ks (λh'=>h' a=some (.wlk t ep ks vs)) (put hd a (.wlk t ep ks vs))):Ht k (.ref a) hd:=by unfold Ht;simp only[h];exact q
theorem NE{t:Bool}{ep:Nat}{ks vs:List D}{k:List D->(Hd->Prop)->Hd->Prop}(h:hd a=some (.wlk t ep ks vs))(q:k ks (λh'=>h' a=some (.wlk t ep ks vs)) hd):Ht k (.ref a) hd:=by unfold Ht;simp only[h];exact q
theorem ND{xs:List D}{k:List D->(Hd->Prop)->Hd->Prop}(h:hd a=some (.lst xs))(q:k xs (λh'=>h' a=some (.lst xs)) hd):Ht k (.ref a) hd:=by unfold Ht;simp only[h];exact q
end
noncomputable def Ho(g:GT)(U:G1)(Te:TD)(e:G9)(d:D)(σ:Sd)(h:Hd)(acc:List D)(N:Sd->List D->Hd->Prop):Prop:=g d σ h λσ2 h2=>U σ2 h2 (λb h3=>bif b then Te σ2 h3 (λy h4=>N σ2 (acc++[y]) h4) e else N σ2 acc h3) e
section
variable{g:GT}{U:G1}{Te Tk Tv:TD}{e:G9}{C:Hd->Prop}{h:Hd}
noncomputable def K7(t:Bool)(g:GT)(U:G1)(Tk Tv:TD)(d:D)(σ:Sd)(h:Hd)(ks vs:List D)(N:Sd->List D->List D->Hd->Prop):Prop:=g d σ h λσ2 h2=>U σ2 h2 (λb h3=>bif b then Tk σ2 h3 (λx h4=>Tv σ2 h4 (λy h5=>G3 t x=true/\N σ2 (G2 ks x) (Hb ks vs x y) h5) λ_ _=>False) (λ_ _=>False) else N σ2 ks vs h3) λ_ _=>False
noncomputable def Hn(kf vf:D->D):List D->List D×List D->List D×List D
 | [],r=>r
 | d::ds,r=>Hn kf vf ds (G2 r.1 (kf d),Hb r.1 r.2 (kf d) (vf d))
theorem KZ{t:Bool}{k:List D->List D->Hd->Prop}(b:D->Bool)(kf vf:D->D)(Pv:Sd->Prop)(hC:C h):∀(ds:List D){σ:Sd}{ks vs:List D},Pv σ->
 (∀d∈ds,∀σ ks vs N,Pv σ->(∀σ2,Pv σ2->bif b d then N σ2 (G2 ks (kf d)) (Hb ks vs (kf d) (vf d)) h else N σ2 ks vs h)->K7 t g U Tk Tv d σ h ks vs N)->
 k (Hn kf vf (ds.filter b) (ks,vs)).1 (Hn kf vf (ds.filter b) (ks,vs)).2 h->Io t g U Tk Tv C k ds σ ks vs h
 | [],σ,ks,vs,p,hs,q=>⟨hC,by simpa [Hn] using q⟩
 | d::ds,σ,ks,vs,p,hs,q=>by
  refine⟨hC,hs d (.head _) σ ks vs (λσ2 ks2 vs2 h2=>Io t g U Tk Tv C k ds σ2 ks2 vs2 h2) p λσ2 p2=>?_⟩;cases eb:b d with
  | true=>exact KZ b kf vf Pv hC ds p2 (λc hc=>hs c (.tail _ hc)) (by simpa [eb,Hn] using q)
  | false=>exact KZ b kf vf Pv hC ds p2 (λc hc=>hs c (.tail _ hc)) (by simpa [eb,Hn] using q)
end
theorem Hc{k:List D->(Hd->Prop)->Hd->Prop}{xs:List D}{h:Hd}(q:k xs (λ_=>True) h):Ht k (.lst xs) h:=q
theorem L8{k:List D->(Hd->Prop)->Hd->Prop}{xs:List D}{h:Hd}(q:k xs (λ_=>True) h):Ht k (.tup xs) h:=q
theorem IF{i:Nat}{σ:Sd}{hd:Hd}{k:List D->(Hd->Prop)->Hd->Prop}{e:G9}{d:D}(h:IB σ i=some d)(q:Ht k d hd):JU (FN i) σ hd k e:=FI h q
noncomputable def Hg(h:Hd):D->Option (List D)
 | .ref a=>(match h a with | some (.lst xs)=>some xs | some (.dct _ ks _)=>some ks | some (.wlk _ _ ks _)=>some ks | _=>none)
 | .lst xs=>some xs
 | .tup xs=>some xs
 | _=>none
noncomputable def Kv:Option Int->Option Int->Bool
 | some i,some j=>decide (i<=j)
 | _,_=>true
noncomputable def J7:Option Int->Option Int->Bool
 | none,_=>true
 | some _,none=>false
 | some l,some o=>decide (l<=o)
noncomputable def J_:Option Int->Option Int->Bool
 | none,_=>true
 | some _,none=>false
 | some h,some o=>decide (o<=h)
noncomputable def Ia(lo hi lo2 hi2:Option Int):Bool:=J7 lo lo2 && J_ hi hi2
noncomputable abbrev T15:Int:=1000000000000000
theorem OE:(10:Int)^(15:Int).toNat=T15:=by decide
noncomputable def dE:Option Int->D
 | none=> .non
 | some i=> .int i
theorem Z7(lo hi:Option Int):Ia lo hi lo hi=true:=by cases lo<;>cases hi<;>simp[Ia,J7,J_]
noncomputable def JY(c:Nat):Bool:=decide (97<=c) && decide (c<=122)
structure FieldOk(x:Str):Prop where
 one:1<=x.length
 eight:x.length<=8
 all:∀c∈x.cps.toList,JY c=true
theorem Nc:("a":Str).cps.toList=[97]:=by decide+kernel
theorem OP:("z":Str).cps.toList=[122]:=by decide+kernel
theorem OB{c:Nat}(h:JY c=true):(!decide ((⟨#[c]⟩:Str).cps.toList<("a":Str).cps.toList))=true:=by
 rw[Nc];have h1:97<=c:=of_decide_eq_true ((Ae _ _).mp h).1;have:¬([c]:List Nat)<[97]:=by
  intro z;cases z with
  | rel z=>exact absurd z (by lia)
  | cons z=>cases z
 show(!decide (([c]:List Nat)<[97]))=true;rw[decide_eq_false this];rfl
theorem O8{c:Nat}(h:JY c=true):(!decide (("z":Str).cps.toList<(⟨#[c]⟩:Str).cps.toList))=true:=by
 rw[OP];have h1:c<=122:=of_decide_eq_true ((Ae _ _).mp h).2;have:¬([122]:List Nat)<[c]:=by
  intro z;cases z with
  | rel z=>exact absurd z (by lia)
  | cons z=>cases z
 show(!decide (([122]:List Nat)<[c]))=true;rw[decide_eq_false this];rfl
noncomputable def Hz(f g:Str):Prop:=f.cps.toList<g.cps.toList
noncomputable abbrev WP:=Str×Option Int×Option Int
structure WOk(w:List WP):Prop where
 len:w.length<=100
 ok:∀p∈w,FieldOk p.1/\Kv p.2.1 p.2.2=true
 asc:(w.map (·.1)).Pairwise Hz
noncomputable def HF(w:List WP)(f:Str):Option (Option Int×Option Int):=(w.find? (λp=>decide (p.1=f))).map (·.2)
theorem PC{f g:Str}(h:Hz f g):f≠g:=λe=>by subst e;exact BY _ h
noncomputable def JV(other:List WP)(p:WP):Bool:=match HF other p.1 with
 | none=>false
 | some s=>Ia p.2.1 p.2.2 s.1 s.2
theorem Sa{other:List WP}{p:WP}(h:HF other p.1=none):JV other p=false:=by unfold JV;rw[h]
theorem Sb{other:List WP}{p:WP}{s:Option Int×Option Int}(h:HF other p.1=some s):JV other p=Ia p.2.1 p.2.2 s.1 s.2:=by unfold JV;rw[h]
noncomputable def Gg(one other:List WP):Bool:=one.all (JV other)
theorem X7{x y:Str}(h:x.cps.toList=y.cps.toList):x=y:=by obtain⟨a⟩:=x;obtain⟨b⟩:=y;congr;exact FG.mp h
theorem Ql{x y:Str}(h:¬Hz x y)(n:x≠y):Hz y x:=by
 unfold Hz at*;rcases Std.lt_trichotomy (α:=List Nat) x.cps.toList y.cps.toList with h1 | h1 | h1
 . exact absurd h1 h
 . exact absurd (X7 h1) n
 . exact h1
theorem Zh{x y z:Str}(h:Hz x y)(h2:Hz y z):Hz x z:=Ez h h2
theorem Ru:∀(r:List Str)(p:Str),risingS p r=true->(p::r).Nodup->(p::r).Pairwise Hz
 | [],p,_,_=>List.pairwise_singleton _ _
 | x::r,p,h,n=>by
  unfold risingS at h;rw[Ae,Dz,ltCps_eq,decide_eq_false_iff_not] at h;rw[AL] at n;have px:Hz p x:=Ql (x:=x) (y:=p) h.1 (λe=>n.1 (by rw[<-e];exact AA));have ih:=Ru r x h.2 n.2;rw[List.pairwise_cons];refine⟨λy hy=>?_,ih⟩;rcases Ag.mp hy with rfl | hy
  . exact px
  . exact Zh px ((Et.mp ih).1 y hy)
theorem Oq{ms:List Str}(h:sortedS ms=true)(n:ms.Nodup):ms.Pairwise Hz:=by
 cases ms with
 | nil=>exact .nil
 | cons x r=>exact Ru r x h n
theorem az:("abcdefghijklmnopqrstuvwxyz":Str).cps.toList=(A6 26).map (· +97):=by decide+kernel
theorem Pq{r:Int}(h0:0<=r)(h1:r<26):∃(i c:Nat),r=(i:Int)/\("abcdefghijklmnopqrstuvwxyz":Str).cps.toList[i]?=some c/\JY c=true:=by
 rw[az];obtain⟨k,rfl⟩:∃k:Nat,r=k:=⟨r.toNat,by lia⟩;have hk:k<26:=by lia
 refine⟨k,k+97,rfl,by rw[AB,Ee hk];rfl,?_⟩;unfold JY;rw[Ae];exact⟨decide_eq_true (by lia),decide_eq_true (by lia)⟩
theorem Oo:∀(cs:List Nat),(Dp ("":Str) (cs.map λc=>(⟨#[c]⟩:Str))).cps.toList=cs
 | []=>rfl
 | [c]=>rfl
 | c::d::r=>by
  have ih:=Oo (d::r);have e:∀(ts:List Str),Dp ("":Str) ts=Str.join ("":Str) ts:=λts=>StrLaws.glued_eq_join _ _;rw[e] at ih ⊢;show((⟨#[c]⟩:Str)++("":Str)++Str.join ("":Str) ((d::r).map λc=>(⟨#[c]⟩:Str))).cps.toList=_;have:((⟨#[c]⟩:Str)++("":Str)++Str.join ("":Str) ((d::r).map λc=>(⟨#[c]⟩:Str))).cps.toList=c::(Str.join ("":Str) ((d::r).map λc=>(⟨#[c]⟩:Str))).cps.toList:=by show(#[c]++#[]++_:Array Nat).toList=_;simp
  rw[this,ih]
theorem Qe(cs:List Nat)(h:cs.length<=1000):JoinOk ("":Str) (cs.map λc=>(⟨#[c]⟩:Str))=true:=by
 unfold JoinOk;rw[Dz];refine StrLaws.joinFits (B:=1) (λy hy=>?_) ?_
 . obtain⟨c,_,rfl⟩:=AG.mp hy;exact Al 1
 . rw[Ac];show cs.length*1+cs.length*0<=_;lia
theorem Zz{cs:List Nat}(h1:1<=cs.length)(h8:cs.length<=8)(ok:∀c∈cs,JY c=true):FieldOk (Dp ("":Str) (cs.map λc=>(⟨#[c]⟩:Str))):=by
 have e:=Oo cs;have hl:(Dp ("":Str) (cs.map λc=>(⟨#[c]⟩:Str))).length=cs.length:=by show Array.size _=_;rw[<-A4,e]
 exact⟨by rw[hl];exact h1,by rw[hl];exact h8,by rw[e];exact ok⟩
noncomputable def dWP(p:WP):D:= .tup [.str p.1,dE p.2.1,dE p.2.2]
noncomputable def dW(w:List WP):D:= .tup (w.map dWP)
structure STo{α:Type}(l:α->α->Bool):Prop where
 ir:∀a,l a a=false
 tr:∀a b c,l a b=true->l b c=true->l a c=true
 tot:∀a b,a≠b->l a b=true\/l b a=true
noncomputable def JK(a b:Int):Bool:=decide (a<b)
theorem sto_int:STo JK:=⟨λa=>by simp[JK],λa b c h1 h2=>by simp[JK] at*;lia,λa b h=>by simp[JK];lia⟩
noncomputable def MQ(a b:Str):Bool:=decide (a.cps.toList<b.cps.toList)
theorem sto_str:STo MQ:=⟨λa=>decide_eq_false (BY _),λa b c h1 h2=>decide_eq_true (Ez (of_decide_eq_true h1) (of_decide_eq_true h2)),λa b h=>by
 by_cases q:Hz a b
 . exact .inl (decide_eq_true q)
 . exact .inr (decide_eq_true (Ql q h))⟩
noncomputable def Hi{α β:Type}[DecidableEq α](l:α->α->Bool)(m:β->β->Bool)(x y:α×β):Bool:=if x.1=y.1 then m x.2 y.2 else l x.1 y.1
theorem STo.pair{α β:Type}[DecidableEq α]{l:α->α->Bool}{m:β->β->Bool}(h:STo l)(k:STo m):STo (Hi l m) where
 ir:=λa=>by simp[Hi,k.ir]
 tr:=λ⟨a,a'⟩ ⟨b,b'⟩ ⟨c,c'⟩ h1 h2=>by
  simp only[Hi] at*;by_cases e1:a=b
  . subst e1;rw[if_pos rfl] at h1;by_cases e2:a=c
    . subst e2;rw[if_pos rfl] at h2 ⊢;exact k.tr _ _ _ h1 h2
    . rw[if_neg e2] at h2 ⊢;exact h2
  . rw[if_neg e1] at h1;by_cases e2:b=c
    . subst e2;rw[if_neg e1];exact h1
    . rw[if_neg e2] at h2;have:=h.tr _ _ _ h1 h2;by_cases e3:a=c
      . subst e3;rw[h.ir] at this;cases this
      . rw[if_neg e3];exact this
 tot:=λ⟨a,a'⟩ ⟨b,b'⟩ hn=>by
  simp only[Hi];by_cases e:a=b
  . subst e;rw[if_pos rfl,if_pos rfl];exact k.tot _ _ λz=>hn (by rw[z])
  . rw[if_neg e,if_neg (Be e)];exact h.tot _ _ e
noncomputable def GM{α:Type}[DecidableEq α](l:α->α->Bool):List α->List α->Bool
 | [],[]=>false
 | [],_::_=>true
 | _::_,[]=>false
 | x::xs,y::ys=>if x=y then GM l xs ys else l x y
theorem STo.list{α:Type}[DecidableEq α]{l:α->α->Bool}(h:STo l):STo (GM l) where
 ir:=λa=>by
  induction a with
  | nil=>rfl
  | cons x xs ih=>simp[GM,ih]
 tr:=λa=>by
  induction a with
  | nil=>
   intro b c h1 h2;cases b with
   | nil=>simp[GM] at h1
   | cons y ys=>
    cases c with
    | nil=>simp[GM] at h2
    | cons z zs=>rfl
  | cons x xs ih=>
   intro b c h1 h2;cases b with
   | nil=>simp[GM] at h1
   | cons y ys=>
    cases c with
    | nil=>simp[GM] at h2
    | cons z zs=>
     simp only[GM] at*;by_cases e1:x=y
     . subst e1;rw[if_pos rfl] at h1;by_cases e2:x=z
       . subst e2;rw[if_pos rfl] at h2 ⊢;exact ih _ _ h1 h2
       . rw[if_neg e2] at h2 ⊢;exact h2
     . rw[if_neg e1] at h1;by_cases e2:y=z
       . subst e2;rw[if_neg e1];exact h1
       . rw[if_neg e2] at h2;have:=h.tr _ _ _ h1 h2;by_cases e3:x=z
         . subst e3;rw[h.ir] at this;cases this
         . rw[if_neg e3];exact this
 tot:=λa=>by
  induction a with
  | nil=>
   intro b hn;cases b with
   | nil=>exact absurd rfl hn
   | cons y ys=>exact .inl rfl
  | cons x xs ih=>
   intro b hn;cases b with
   | nil=>exact .inr rfl
   | cons y ys=>
    simp only[GM];by_cases e:x=y
    . subst e;rw[if_pos rfl,if_pos rfl];exact ih _ λz=>hn (by rw[z])
    . rw[if_neg e,if_neg (Be e)];exact h.tot _ _ e
noncomputable def HP:Option Int->Int×Int
 | none=>(0,0)
 | some l=>(1,l)
noncomputable def HQ:Option Int->Int×Int
 | none=>(1,0)
 | some h=>(0,h)
noncomputable def d2(p:Int×Int):D:= .tup [.int p.1,.int p.2]
noncomputable def Ic(p:WP):D:= .tup [.str p.1,d2 (HP p.2.1),d2 (HQ p.2.2)]
noncomputable def IG(w:List WP):D:= .lst (w.map Ic)
noncomputable abbrev OJ:=Str×(Int×Int)×(Int×Int)
noncomputable def ky(p:WP):OJ:=(p.1,HP p.2.1,HQ p.2.2)
noncomputable def Je:Int×Int->Int×Int->Bool:=Hi JK JK
noncomputable def HJ:OJ->OJ->Bool:=Hi MQ (Hi Je Je)
theorem sto_ky:STo (GM HJ):=(sto_str.pair ((sto_int.pair sto_int).pair (sto_int.pair sto_int))).list
noncomputable def JS(w w':List WP):Bool:=GM HJ (w.map ky) (w'.map ky)
theorem XC{a b:Option Int}(h:HP a=HP b):a=b:=by cases a<;>cases b<;>simp[HP] at h ⊢;exact h
theorem Wy{a b:Option Int}(h:HQ a=HQ b):a=b:=by cases a<;>cases b<;>simp[HQ] at h ⊢;exact h
theorem VQ{p q:WP}(h:ky p=ky q):p=q:=by obtain⟨f,lo,hi⟩:=p;obtain⟨f',lo',hi'⟩:=q;unfold ky at h;simp only[Prod.mk.injEq] at h ⊢;exact⟨h.1,XC h.2.1,Wy h.2.2⟩
noncomputable abbrev wM:Int:=2147483563
noncomputable abbrev bL:Int:=2000000000000000
structure IsTop(ws qs:List (List WP)):Prop where
 nd:qs.Nodup
 mem:∀w,w∈qs↔w∈ws/\∀o∈ws,Gg o w=true->o=w
noncomputable def GD(qs:List (List WP)):Prop:=qs.Pairwise λx y=>JS y x=false
theorem RR{x y:List WP}(h1:JS x y=false)(h2:JS y x=false):x=y:=by
 by_cases e:x.map ky=y.map ky
 . exact List.map_inj_right (λ_ _ z=>VQ z) |>.mp e
 . rcases sto_ky.tot _ _ e with z | z
   . rw[show JS x y=true from z] at h1;cases h1
   . rw[show JS y x=true from z] at h2;cases h2
theorem YS{ws qs qs':List (List WP)}(h:IsTop ws qs)(h':IsTop ws qs')(s:GD qs)(s':GD qs'):qs=qs':=
 C9 (λa b _ _ h1 h2=>RR h2 h1) s s' ((BU h.nd h'.nd).mpr λw=>by rw[h.mem,h'.mem])
theorem IsTop.perm{ws qs qs':List (List WP)}(h:IsTop ws qs)(p:qs'.Perm qs):IsTop ws qs':=⟨p.nodup_iff.mpr h.nd,λw=>by rw[p.mem_iff];exact h.mem w⟩
theorem PK{ws us:List (List WP)}(nd:us.Nodup)(hm:∀w,w∈us↔w∈ws)(f:List WP->Bool)(hf:∀w∈us,f w=true↔∀o∈us,Gg o w=true->o=w):IsTop ws (us.filter f):=
 ⟨nd.filter _,λw=>by
  rw[A0];constructor
  . rintro⟨h1,h2⟩;exact⟨(hm w).mp h1,λo ho=>(hf w h1).mp h2 o ((hm o).mpr ho)⟩
  . rintro⟨h1,h2⟩;have h1:=(hm w).mpr h1;exact⟨h1,(hf w h1).mpr λo ho=>h2 o ((hm o).mp ho)⟩⟩
theorem Yf{f g:Str}(h1:Hz f g)(h2:Hz g f):False:=BY _ (Ez h1 h2)
theorem Q8{w:List WP}{f:Str}{s:Option Int×Option Int}(h:HF w f=some s):(f,s.1,s.2)∈w:=by
 unfold HF at h;cases e:w.find? (λp=>decide (p.1=f)) with
 | none=>rw[e] at h;cases h
 | some p=> rw[e] at h;have h1:=Eb e;have h2:=Dk e;have e1:p.1=f:=of_decide_eq_true h1;obtain⟨pf,pl,ph⟩:=p;cases h;cases e1;exact h2
theorem R1{w:List WP}(ok:WOk w){p:WP}(h:p∈w):HF w p.1=some p.2:=by
 unfold HF;cases e:w.find? (λq=>decide (q.1=p.1)) with
 | none=> have:=FE.mp e p h;simp at this
 | some q=>
  have h1:q.1=p.1:=of_decide_eq_true (Eb (p:=λq:WP=>decide (q.1=p.1)) e);have h2:=Dk e;have:q=p:=by
   obtain⟨i,hi⟩:=CN.mp h;obtain⟨j,hj⟩:=CN.mp h2;obtain⟨li,ei⟩:=Ar.mp hi;obtain⟨lj,ej⟩:=Ar.mp hj;have pw:=Dj.mp ok.asc;rcases Nat.lt_trichotomy i j with z | z | z
   . have:=pw i j (by simpa using li) (by simpa using lj) z;simp only[List.getElem_map,ei,ej] at this;rw[h1] at this;exact absurd this (BY _)
   . subst z;rw[ei] at ej;exact ej.symm
   . have:=pw j i (by simpa using lj) (by simpa using li) z;simp only[List.getElem_map,ei,ej] at this;rw[h1] at this;exact absurd this (BY _)
  rw[this];rfl
theorem reach_iff{a b:List WP}:Gg a b=true↔∀p∈a,∃s,HF b p.1=some s/\Ia p.2.1 p.2.2 s.1 s.2=true:=by
 unfold Gg;rw[A3];refine forall_congr' λp=>forall_congr' λhp=>?_;unfold JV;cases HF b p.1 with
 | none=>simp
 | some s=>simp
theorem zdu{a1 a2 b1 b2 c1 c2:Option Int}(h:Ia a1 a2 b1 b2=true)(h':Ia b1 b2 c1 c2=true):Ia a1 a2 c1 c2=true:=by
 unfold Ia at*;rw[Ae] at*;constructor
 . cases a1<;>cases b1<;>cases c1<;>simp[J7] at* <;>lia
 . cases a2<;>cases b2<;>cases c2<;>simp[J_] at* <;>lia
theorem zd1{a1 a2 b1 b2:Option Int}(h:Ia a1 a2 b1 b2=true)(h':Ia b1 b2 a1 a2=true):a1=b1/\a2=b2:=by
 unfold Ia at*;rw[Ae] at*;constructor
 . cases a1<;>cases b1<;>simp[J7] at* <;>lia
 . cases a2<;>cases b2<;>simp[J_] at* <;>lia
theorem Ld{a b c:List WP}(h:Gg a b=true)(h':Gg b c=true):Gg a c=true:=by rw[reach_iff] at*;intro p hp;obtain⟨s,e,r⟩:=h p hp;obtain⟨s',e',r'⟩:=h' _ (Q8 e);exact⟨s',e',zdu r r'⟩
theorem Oj{a b:List WP}(oa:WOk a)(ob:WOk b)(h:Gg a b=true)(h':Gg b a=true):a=b:=by
 have sub:∀{a b:List WP},WOk a->Gg a b=true->Gg b a=true->∀p∈a,p∈b:=λ{a b}oa h h' p hp=>by rw[reach_iff] at*;obtain⟨s,e,r⟩:=h p hp;have m:=Q8 e;obtain⟨s',e',r'⟩:=h' _ m;rw[show(p.1,s.1,s.2).1=p.1 from rfl,R1 oa hp] at e';cases e';obtain⟨z1,z2⟩:=zd1 r r';obtain⟨pf,pl,ph⟩:=p;dsimp only at*;rw[z1,z2];exact m
 have nd:∀{a:List WP},WOk a->a.Nodup:=λ{a}oa=>by have:=oa.asc;rw[BE] at this;exact this.imp λ{x y}h e=>by rw[e] at h;exact BY _ h
 have pm:a.Perm b:=(BU (nd oa) (nd ob)).mpr λp=>⟨sub oa h h' p,sub ob h' h p⟩;have pa:=oa.asc;have pb:=ob.asc;rw[BE] at pa pb;exact C9 (λx y _ _ h1 h2=>(Yf h1 h2).elim) pa pb pm
theorem RD{α:Type}{p q:α->Bool}(h:∀x,p x=true->q x=true){o:α}(hq:q o=true)(hp:p o=false):∀{l:List α},o∈l->(l.filter p).length<(l.filter q).length
 | [],m=>by cases m
 | a::l,m=>by
  have le:(l.filter p).length<=(l.filter q).length:=by
   clear m
   induction l with
   | nil=>exact Al _
   | cons b l ih=>
    rw[DD,DD];cases hb:p b with
    | true=>rw[if_pos rfl,if_pos (h b hb),Ao,Ao];lia
    | false=>
     rw[if_neg Bb]
     split
     . rw[Ao];lia
     . exact ih
  rw[DD,DD];rcases Ag.mp m with rfl | m
  . rw[hp,hq,if_neg Bb,if_pos rfl,Ao];lia
  . have ih:=RD h hq hp m;cases hb:p a with
    | true=>rw[if_pos rfl,if_pos (h a hb),Ao,Ao];lia
    | false=>
     rw[if_neg Bb]
     split
     . rw[Ao];lia
     . exact ih
theorem Oe{O:List (List WP)}(ok:∀v∈O,WOk v)(rf:∀v∈O,Gg v v=true):∀(n:Nat)(v:List WP),v∈O->(O.filter λo=>Gg o v && !decide (o=v)).length<=n->∃g∈O,Gg g v=true/\∀o∈O,Gg o g=true->o=g:=by
 intro n
 induction n with
 | zero=>
  intro v hv hn;refine⟨v,hv,rf v hv,λo ho r=>?_⟩;by_cases e:o=v
  . exact e
  . have:o∈O.filter λo=>Gg o v && !decide (o=v):=A0.mpr ⟨ho,by rw[r,decide_eq_false e];rfl⟩;rw[List.length_eq_zero_iff.mp (Nat.le_zero.mp hn)] at this;cases this
 | succ n ih=>
  intro v hv hn;by_cases t:∀o∈O,Gg o v=true->o=v
  . exact⟨v,hv,rf v hv,t⟩
  . have⟨o,ho⟩:=F4.mp t;have⟨m,ho⟩:=D3.mp ho;have⟨r,ne⟩:=D3.mp ho;have lt:(O.filter λx=>Gg x o && !decide (x=o)).length<(O.filter λx=>Gg x v && !decide (x=v)).length:=by
     have e:(O.filter λx=>Gg x o && !decide (x=o))=O.filter λx=>Gg x o && !decide (x=o) && Gg x v && !decide (x=v):=by
      refine List.filter_congr λx hx=>?_;cases c:Gg x o && !decide (x=o) with
      | false=>rfl
      | true=>
       rw[Ae] at c;have c2:x≠o:=by simpa using c.2
       have rv:=Ld c.1 r;have nv:x≠v:=λz=>by subst z;exact ne (Oj (ok o m) (ok x hx) r c.1)
       rw[rv,decide_eq_false nv];rfl
     rw[e];refine RD (λx hx=>?_) (o:=o) (by rw[r,decide_eq_false ne];rfl) (by simp) m;rw[Ae,Ae,Ae] at hx;rw[hx.1.2,hx.2];rfl
    obtain⟨g,hg,r2,tg⟩:=ih o m (by lia);exact⟨g,hg,Ld r2 r,tg⟩
theorem X9{O L G S R Q O1:List (List WP)}(ok:∀v∈O,WOk v)(rf:∀v∈O,Gg v v=true)(tG:IsTop O G)(h1:∀v,v∈O1↔v∈O/\v ∉ L)(hS:∀v,v∈S↔v∈G/\v ∉ L)(nS:S.Nodup)
 (hR:∀v,v∈R↔v∈O/\v ∉ L/\(∃g∈G,g∈L/\Gg g v=true/\g≠v)/\∀s∈S,Gg s v=true->s=v) (tQ:IsTop R Q):IsTop O1 (S++Q):=by
 have qO:∀q∈Q,q∈R:=λq hq=>((tQ.mem q).mp hq).1;have key:∀v∈O,v ∉ L->(∀s∈S,Gg s v=true->s=v)->v ∉ G->v∈R:=λv hv nl us ng=>by obtain⟨g,hg,r,t⟩:=Oe ok rf _ v hv (Al _);have gG:g∈G:=(tG.mem g).mpr ⟨hg,t⟩;have ne:g≠v:=λz=>ng (z ▸ gG);refine(hR v).mpr ⟨hv,nl,⟨g,gG,?_,r,ne⟩,us⟩;exact AE λz=>ne (us g ((hS g).mpr ⟨gG,z⟩) r)
 refine⟨AZ.mpr ⟨nS,tQ.nd,λa ha b hb z=>?_⟩,λv=>⟨λhv=>?_,λ⟨hv,t⟩=>?_⟩⟩
 . subst z;obtain⟨_,_,⟨g,gG,_,r,ne⟩,_⟩:=(hR a).mp (qO a hb);exact ne (((tG.mem a).mp ((hS a).mp ha).1).2 g ((tG.mem g).mp gG).1 r)
 . rcases Aq.mp hv with hv | hv
   . have:=(hS v).mp hv;have g:=(tG.mem v).mp this.1;exact⟨(h1 v).mpr ⟨g.1,this.2⟩,λo ho r=>g.2 o ((h1 o).mp ho).1 r⟩
   . obtain⟨vO,vL,⟨g,gG,gL,r,ne⟩,us⟩:=(hR v).mp (qO v hv);refine⟨(h1 v).mpr ⟨vO,vL⟩,λo ho ro=>AE λnv=>?_⟩;obtain⟨oO,oL⟩:=(h1 o).mp ho;have ou:∀s∈S,Gg s o=true->s=o:=λs hs rs=>by
      have e:=us s hs (Ld rs ro);subst e;exact(Oj (ok o oO) (ok s vO) ro rs).symm
     by_cases og:o∈G
     . exact nv (us o ((hS o).mpr ⟨og,oL⟩) ro)
     . exact nv (((tQ.mem v).mp hv).2 o (key o oO oL ou og) ro)
 . obtain⟨vO,vL⟩:=(h1 v).mp hv;by_cases g:v∈G
   . exact A1 _ ((hS v).mpr ⟨g,vL⟩)
   . have us:∀s∈S,Gg s v=true->s=v:=λs hs r=>t s ((h1 s).mpr ⟨((tG.mem s).mp ((hS s).mp hs).1).1,((hS s).mp hs).2⟩) r;exact Am _ ((tQ.mem v).mpr ⟨key v vO vL us g,λo ho r=>t o ((h1 o).mpr ⟨((hR o).mp ho).1,((hR o).mp ho).2.1⟩) r⟩)
theorem Xb{O N G Q C D O1:List (List WP)}(ok:∀v∈O1,WOk v)(rf:∀v∈O1,Gg v v=true)(tG:IsTop O G)(tQ:IsTop N Q)(h1:∀v,v∈O1↔v∈O\/v∈N)(dj:∀v∈N,v ∉ O)
 (hC:∀v,v∈C↔v∈Q/\∀g∈G,Gg g v=true->g=v) (nC:C.Nodup) (hD:∀v,v∈D↔v∈G/\∀c∈C,Gg c v=true->c=v) (nD:D.Nodup):IsTop O1 (D++C):=by
 have gO:∀g∈G,g∈O:=λg h=>((tG.mem g).mp h).1;have qN:∀q∈Q,q∈N:=λq h=>((tQ.mem q).mp h).1;have cN:∀c∈C,c∈N:=λc h=>qN c ((hC c).mp h).1;have okO:∀v∈O,WOk v:=λv h=>ok v ((h1 v).mpr (.inl h));have okN:∀v∈N,WOk v:=λv h=>ok v ((h1 v).mpr (.inr h));have upO:∀v∈O,∃g∈G,Gg g v=true:=λv h=>by obtain⟨g,hg,r,t⟩:=Oe okO (λv h=>rf v ((h1 v).mpr (.inl h))) _ v h (Al _);exact⟨g,(tG.mem g).mpr ⟨hg,t⟩,r⟩
 have upN:∀v∈N,∃g∈Q,Gg g v=true:=λv h=>by obtain⟨g,hg,r,t⟩:=Oe okN (λv h=>rf v ((h1 v).mpr (.inr h))) _ v h (Al _);exact⟨g,(tQ.mem g).mpr ⟨hg,t⟩,r⟩
 refine⟨AZ.mpr ⟨nD,nC,λa ha b hb z=>?_⟩,λv=>⟨λhv=>?_,λ⟨hv,t⟩=>?_⟩⟩
 . subst z;exact dj a (cN a hb) (gO a ((hD a).mp ha).1)
 . rcases Aq.mp hv with hv | hv
   . obtain⟨vG,vc⟩:=(hD v).mp hv;refine⟨(h1 v).mpr (.inl (gO v vG)),λo ho r=>?_⟩;rcases(h1 o).mp ho with ho | ho
     . exact((tG.mem v).mp vG).2 o ho r
     . obtain⟨q,hq,r2⟩:=upN o ho;have rq:=Ld r2 r;exfalso;by_cases u:∀g∈G,Gg g q=true->g=q
       . have e:=vc q ((hC q).mpr ⟨hq,u⟩) rq;subst e;exact dj q (qN q hq) (gO q vG)
       . have⟨g,u⟩:=F4.mp u;have⟨gG,u⟩:=D3.mp u;have⟨rg,ne⟩:=D3.mp u;have e:=((tG.mem v).mp vG).2 g (gO g gG) (Ld rg rq);subst e;exact ne (Oj (okO g (gO g vG)) (okN q (qN q hq)) rg rq)
   . obtain⟨vQ,vg⟩:=(hC v).mp hv;refine⟨(h1 v).mpr (.inr (qN v vQ)),λo ho r=>?_⟩;rcases(h1 o).mp ho with ho | ho
     . obtain⟨g,gG,r2⟩:=upO o ho;have e:=vg g gG (Ld r2 r);subst e;exact absurd (gO g gG) (dj g (qN g vQ))
     . exact((tQ.mem v).mp vQ).2 o ho r
 . rcases(h1 v).mp hv with ho | ho
   . exact A1 _ ((hD v).mpr ⟨(tG.mem v).mpr ⟨ho,λo h r=>t o ((h1 o).mpr (.inl h)) r⟩,λc hc r=>t c ((h1 c).mpr (.inr (cN c hc))) r⟩)
   . exact Am _ ((hC v).mpr ⟨(tQ.mem v).mpr ⟨ho,λo h r=>t o ((h1 o).mpr (.inr h)) r⟩,λg hg r=>t g ((h1 g).mpr (.inl (gO g hg))) r⟩)
theorem Z6{v:List WP}(h:WOk v):Gg v v=true:=reach_iff.mpr λp hp=>⟨p.2,R1 h hp,Z7 _ _⟩
noncomputable def H0(p:WP):D:= .tup [.str p.1,.bl p.2.1.isSome,.int (p.2.1.getD 0),.bl p.2.2.isNone,.int (p.2.2.getD 0)]
noncomputable def Ie(w:List WP):D:= .tup (w.map H0)
theorem VT(a b:Option Int)(r r':List D):FT (.bl a.isSome:: .int (a.getD 0)::r) (.bl b.isSome:: .int (b.getD 0)::r')=(decide (HP a=HP b) && FT r r'):=by rw[FT,FT];cases a<;>cases b<;>simp[FQ,HP]<;>rfl
theorem VR(a b:Option Int)(r r':List D):FT (.bl a.isNone:: .int (a.getD 0)::r) (.bl b.isNone:: .int (b.getD 0)::r')=(decide (HQ a=HQ b) && FT r r'):=by rw[FT,FT];cases a<;>cases b<;>simp[FQ,HQ]<;>rfl
theorem XI(p q:WP):FQ (H0 p) (H0 q)=decide (ky p=ky q):=by unfold H0 ky;rw[FQ,FT,VT,VR,FT,FQ];simp[Bool.decide_and];congr 1
theorem VU(a b:Option Int)(r r':List D):FU (.bl a.isSome:: .int (a.getD 0)::r) (.bl b.isSome:: .int (b.getD 0)::r')=if HP a=HP b then FU r r' else Je (HP a) (HP b):=by rw[FU,FU];cases a<;>cases b<;>simp[FQ,Gq,HP,Je,Hi,JK]<;>congr 1
theorem VS(a b:Option Int)(r r':List D):FU (.bl a.isNone:: .int (a.getD 0)::r) (.bl b.isNone:: .int (b.getD 0)::r')=if HQ a=HQ b then FU r r' else Je (HQ a) (HQ b):=by rw[FU,FU];cases a<;>cases b<;>simp[FQ,Gq,HQ,Je,Hi,JK]<;>congr 1
theorem Xp(p q:WP)(hn:ky p≠ky q):Gq (H0 p) (H0 q)=HJ (ky p) (ky q):=by
 unfold H0;rw[Gq,FU,VU,VS,FU,FQ,Gq];unfold HJ Hi ky;unfold ky at hn;by_cases h:p.1=q.1
 . simp only[h,beq_self_eq_true,if_true];by_cases h1:HP p.2.1=HP q.2.1
   . simp only[h1,if_true];by_cases h2:HQ p.2.2=HQ q.2.2
     . exact absurd (by rw[h,h1,h2]) hn
     . simp only[h2,if_false]
   . simp only[h1,if_false]
 . simp[h,MQ]
theorem Zl(p q:WP):GF (H0 p) (H0 q)=true:=by
 unfold H0;rw[GF,GU,GU,GU,GU,GU,GU]
 all_goals simp[GF]
theorem Rq:∀w w':List WP,GU (w.map H0) (w'.map H0)=true
 | [],w'=>by rw[Bj,GU];all_goals simp
 | x::r,[]=>by rw[Bj,GU];all_goals simp
 | x::r,y::r'=>by rw[Aj,Aj,GU,Zl,Rq r r'];simp
theorem QE:∀w w':List WP,FU (w.map H0) (w'.map H0)=GM HJ (w.map ky) (w'.map ky)
 | [],[]=>by rw[Bj,FU];rfl
 | [],y::r=>by rw[Bj,Aj,FU];rfl
 | x::r,[]=>by rw[Bj,Aj,FU];rfl
 | x::r,y::r'=>by
  rw[Aj,Aj,FU,XI,QE r r',Aj,Aj,GM];by_cases h:ky x=ky y
  . rw[if_pos (decide_eq_true h),if_pos h]
  . rw[if_neg (by simpa using h),if_neg h,Xp x y h]
theorem V6(w w':List WP):Gq (Ie w) (Ie w')=JS w w':=by unfold Ie JS;rw[Gq,QE]
noncomputable def oD:Option Int->D
 | none=> .non
 | some i=> .int i
noncomputable def pD(p:WP):D:= .tup [.str p.1,oD p.2.1,oD p.2.2]
noncomputable def wD(w:List WP):D:= .tup (w.map pD)
noncomputable def Ov:D->Option Int
 | .int i=>some i
 | _=>none
noncomputable def Jw:D->WP
 | .tup [.str f,a,b]=>(f,Ov a,Ov b)
 | _=>("",none,none)
noncomputable def Iz:D->List WP
 | .tup ds=>ds.map Jw
 | _=>[]
theorem Xe(o:Option Int):Ov (oD o)=o:=by cases o<;>rfl
theorem Mw(p:WP):Jw (pD p)=p:=by unfold pD Jw;simp only[Xe]
theorem Jv(w:List WP):Iz (wD w)=w:=by unfold wD Iz;simp only[B8];rw[show w.map (Jw∘pD)=w.map id from BO λp _=>Mw p,Fi]
theorem PM{a b:List WP}(h:wD a=wD b):a=b:=by rw[<-Jv a,<-Jv b,h]
theorem Xf{a b:List WP}:wD a=wD b↔a=b:=⟨PM,λh=>by rw[h]⟩
mutual
def cln:Nat->D->Bool
 | _,.non=>true
 | _,.int _=>true
 | _,.str _=>true
 | n+1,.tup ds=>Nat.ble ds.length 1000 && Hr n ds
 | n+1,.lst ds=>Nat.ble ds.length 1000 && Hr n ds
 | _,_=>false
def Hr:Nat->List D->Bool
 | _,[]=>true
 | n,d::ds=>cln n d && Hr n ds
end
theorem clns_iff{n:Nat}:∀{ds:List D},Hr n ds=true↔∀d∈ds,cln n d=true
 | []=>by simp[Hr]
 | d::ds=>by rw[Hr,Ae,clns_iff];simp
theorem Qc{n:Nat}{ds:List D}(hl:ds.length<=1000)(h:∀d∈ds,cln n d=true):cln (n+1) (.lst ds)=true:=by rw[cln,Ae];exact⟨CF.mpr hl,clns_iff.mpr h⟩
theorem N7{n:Nat}{ds:List D}(hl:ds.length<=1000)(h:∀d∈ds,cln n d=true):cln (n+1) (.tup ds)=true:=by rw[cln,Ae];exact⟨CF.mpr hl,clns_iff.mpr h⟩
mutual
theorem KT:∀{n m:Nat}{a b:D},cln n a=true->cln m b=true->Gr a b=decide (a=b)
 | _,_,.non,.non,_,_=>by simp[Gr,FQ]
 | _,_,.non,.int _,_,_=>by simp[Gr,FQ]
 | _,_,.non,.str _,_,_=>by simp[Gr,FQ]
 | _,_,.non,.tup _,_,_=>by simp[Gr,FQ]
 | _,_,.non,.lst _,_,_=>by simp[Gr,FQ]
 | _,_,.int _,.non,_,_=>by simp[Gr,FQ]
 | _,_,.int _,.int _,_,_=>by simp only[Gr,FQ];rw[A8];simp
 | _,_,.int _,.str _,_,_=>by simp[Gr,FQ]
 | _,_,.int _,.tup _,_,_=>by simp[Gr,FQ]
 | _,_,.int _,.lst _,_,_=>by simp[Gr,FQ]
 | _,_,.str _,.non,_,_=>by simp[Gr,FQ]
 | _,_,.str _,.int _,_,_=>by simp[Gr,FQ]
 | _,_,.str x,.str y,_,_=>by simp only[Gr,FQ];rw[A8];simp
 | _,_,.str _,.tup _,_,_=>by simp[Gr,FQ]
 | _,_,.str _,.lst _,_,_=>by simp[Gr,FQ]
 | _,_,.tup _,.non,_,_=>by simp[Gr,FQ]
 | _,_,.tup _,.int _,_,_=>by simp[Gr,FQ]
 | _,_,.tup _,.str _,_,_=>by simp[Gr,FQ]
 | _,_,.tup _,.lst _,_,_=>by simp[Gr,FQ]
 | _,_,.lst _,.non,_,_=>by simp[Gr,FQ]
 | _,_,.lst _,.int _,_,_=>by simp[Gr,FQ]
 | _,_,.lst _,.str _,_,_=>by simp[Gr,FQ]
 | _,_,.lst _,.tup _,_,_=>by simp[Gr,FQ]
 | n+1,m+1,.tup as,.tup bs,h1,h2=>by rw[cln,Ae] at h1 h2;have:=N8 h1.2 h2.2;simp only[Gr,FQ];rw[this,A8];simp
 | n+1,m+1,.lst as,.lst bs,h1,h2=>by rw[cln,Ae] at h1 h2;have:=N8 h1.2 h2.2;simp only[Gr,FQ];rw[this,A8];simp
theorem N8:∀{n m:Nat}{as bs:List D},Hr n as=true->Hr m bs=true->FT as bs=decide (as=bs)
 | _,_,[],[],_,_=>by simp[FT]
 | _,_,[],_::_,_,_=>by simp[FT]
 | _,_,_::_,[],_,_=>by simp[FT]
 | _,_,a::as,b::bs,h1,h2=>by rw[Hr,Ae] at h1 h2;have e1:=KT h1.1 h2.1;have e2:=N8 h1.2 h2.2;rw[FT,e2,show FQ a b=decide (a=b) from e1,A8];simp
end
theorem JW{n:Nat}:∀ds:List D,G0 n ds=ds.all (Gm n)
 | []=>rfl
 | d::ds=>by rw[G0,JW ds,Ce]
mutual
theorem L7:∀{n m:Nat}{a:D},n<=m->cln n a=true->Gm m a=true
 | _,m,.non,_,_=>by rw[Gm]
 | _,m,.int _,_,_=>by rw[Gm]
 | _,m,.str _,_,_=>by rw[Gm]
 | n+1,m+1,.tup ds,l,h=>by rw[cln,Ae] at h;rw[Gm];exact NI (D4 l) h.2
 | n+1,m+1,.lst ds,l,h=>by rw[cln,Ae] at h;rw[Gm];exact NI (D4 l) h.2
theorem NI:∀{n m:Nat}{a:List D},n<=m->Hr n a=true->G0 m a=true
 | _,_,[],_,_=>by rw[G0]
 | _,_,d::ds,l,h=>by rw[Hr,Ae] at h;rw[G0,Ae];exact⟨L7 l h.1,NI l h.2⟩
end
theorem UC(o:Option Int)(n:Nat):cln n (oD o)=true:=by cases o<;>simp[oD,cln]
theorem Ue(p:WP):cln 1 (pD p)=true:=N7 (by simp) (by simp[UC,cln])
theorem Uf{w:List WP}(h:w.length<=1000):cln 2 (wD w)=true:=N7 (by simpa using h) λd hd=>by obtain⟨p,_,rfl⟩:=AG.mp hd;exact Ue p
theorem WOk.cln{w:List WP}(h:WOk w):cln 2 (wD w)=true:=Uf (At h.len (by decide))
theorem Lx{ws:List (List WP)}(h:∀w∈ws,WOk w)(l:ws.length<=1000):cln 3 (.lst (ws.map wD))=true:=Qc (by simpa using l) λd hd=>by obtain⟨p,hp,rfl⟩:=AG.mp hd;exact(h p hp).cln
theorem Ls{w:List WP}(h:WOk w):Gm 50 (wD w)=true:=L7 (by decide) h.cln
theorem K3{a b:List WP}(ha:WOk a)(hb:WOk b):Gr (wD a) (wD b)=decide (a=b):=by rw[KT ha.cln hb.cln,decide_eq_decide];exact Xf
theorem Py{ws:List (List WP)}(h:∀w∈ws,WOk w):G0 50 (ws.map wD)=true:=by rw[JW,Bp,A3];exact λw hw=>Ls (h w hw)
theorem OV{ws:List (List WP)}{w:List WP}(h:∀w∈ws,WOk w)(hw:WOk w):(ws.map wD).any (λd=>Gr d (wD w))=decide (w∈ws):=by
 rw[List.any_map,A8,CA,decide_eq_true_iff];constructor
 . rintro⟨x,hx,e⟩;rw[De,K3 (h x hx) hw,decide_eq_true_iff] at e;exact e ▸ hx
 . exact λm=>⟨w,m,by rw[De,K3 hw hw];simp⟩
theorem P5:∀w:List WP,isKs (w.map pD)=true
 | []=>by rw[Bj,isKs]
 | p::w=>by rw[Aj,isKs,P5 w,Bool.and_true];obtain⟨f,a,b⟩:=p;cases a<;>cases b<;>simp[pD,oD,isK,isKs]
theorem OO:∀w:List WP,HZ (w.map pD)<=1
 | []=>by rw[Bj,HZ];lia
 | p::w=>by
  rw[Aj,HZ];have:=OO w;obtain⟨f,a,b⟩:=p;have:Gz (pD (f,a,b))=1:=by cases a<;>cases b<;>simp[pD,oD,Gz,HZ]
  lia
theorem Lo(w:List WP):G3 true (wD w)=true:=by show(true && isKs (w.map pD) && Nat.ble (HZ (w.map pD)) 7)=true;rw[P5,D8,D8,Nat.ble_eq];have:=OO w;lia
theorem Ln(a b:Str):Gf (.str a) (.str b)=decide (a=b):=by rw[<-ID,decide_eq_decide];simp
theorem PT:∀w:List WP,Hy (w.map pD)=true
 | []=>by rw[Bj,Hy]
 | p::w=>by rw[Aj,Hy,PT w,Bool.and_true];obtain⟨f,a,b⟩:=p;cases a<;>cases b<;>simp[pD,oD,JH,Hy]
theorem TX(w:List WP):JH (wD w)=true:=by unfold wD;rw[JH,PT]
theorem M4(p q:Int×Int):FQ (d2 p) (d2 q)=decide (p=q):=by obtain⟨a,b⟩:=p;obtain⟨c,d⟩:=q;unfold d2;rw[FQ,FT,FT,FT,FQ,FQ,A8];simp
theorem PS(p q:Int×Int):Gq (d2 p) (d2 q)=Je p q:=by
 obtain⟨a,b⟩:=p;obtain⟨c,d⟩:=q;unfold d2 Je Hi JK;rw[Gq,FU,FQ,FU,FQ,FU,Gq,Gq];by_cases h:a=c
 . subst h;simp;intro z;lia
 . simp[h]
theorem QJ(p q:Int×Int):GF (d2 p) (d2 q)=true:=by
 obtain⟨a,b⟩:=p;obtain⟨c,d⟩:=q;unfold d2;rw[GF,GU,GU,GU,GF,GF]
 all_goals simp
theorem XJ(p q:WP):FQ (Ic p) (Ic q)=decide (ky p=ky q):=by unfold Ic ky;rw[FQ,FT,FT,FT,FT,M4,M4,FQ,A8];simp
theorem Xq(p q:WP)(hn:ky p≠ky q):Gq (Ic p) (Ic q)=HJ (ky p) (ky q):=by
 have hn':=hn;unfold Ic HJ Hi;unfold ky at*;rw[Gq,FU,FU,FU,FU,M4,M4,PS,PS,FQ,Gq];by_cases h:p.1=q.1
 . simp only[h,beq_self_eq_true,if_true];by_cases h2:HP p.2.1=HP q.2.1
   . simp only[h2,decide_true,if_true];by_cases h3:HQ p.2.2=HQ q.2.2
     . exact absurd (by rw[h,h2,h3]) hn'
     . simp[h3]
   . simp[h2]
 . simp[h,MQ]
theorem ZX(p q:WP):GF (Ic p) (Ic q)=true:=by
 unfold Ic;rw[GF,GU,GU,GU,GU,QJ,QJ,GF]
 all_goals simp
theorem Rr:∀w w':List WP,GU (w.map Ic) (w'.map Ic)=true
 | [],w'=>by rw[Bj,GU];all_goals simp
 | x::r,[]=>by rw[Bj,GU];all_goals simp
 | x::r,y::r'=>by rw[Aj,Aj,GU,ZX,Rr r r'];simp
theorem Za(w w':List WP):GF (IG w) (IG w')=true:=by unfold IG;rw[GF,Rr]
theorem QF:∀w w':List WP,FU (w.map Ic) (w'.map Ic)=GM HJ (w.map ky) (w'.map ky)
 | [],[]=>by rw[Bj,FU];rfl
 | [],y::r=>by rw[Bj,Aj,FU];rfl
 | x::r,[]=>by rw[Bj,Aj,FU];rfl
 | x::r,y::r'=>by
  rw[Aj,Aj,FU,XJ,QF r r',Aj,Aj,GM];by_cases h:ky x=ky y
  . rw[if_pos (decide_eq_true h),if_pos h]
  . rw[if_neg (by simpa using h),if_neg h,Xq x y h]
theorem V7(w w':List WP):Gq (IG w) (IG w')=GM HJ (w.map ky) (w'.map ky):=by unfold IG;rw[Gq,QF]
theorem Vi(w:List WP):Gm 20 (IG w)=true:=by unfold IG;rw[Gm,JW,Bp,A3];intro p _;simp[Ic,d2,Gm,G0]
theorem Vh(w:List WP):Gm 20 (Ie w)=true:=by unfold Ie;rw[Gm,JW,Bp,A3];intro p _;simp[H0,Gm,G0]
theorem Y_(w w':List WP):GF (Ie w) (Ie w')=true:=by unfold Ie;rw[GF];exact Rq w w'
theorem Wv(ws:List (List WP)):HU (ws.map IG)=true:=by
 unfold HU;have:(ws.map IG).all K1=true:=by rw[Bp,A3];exact λ_ _=>rfl
 rw[this];simp
theorem Wt(ws:List (List WP)):HU (ws.map Ie)=true:=by
 unfold HU;by_cases h:∃w∈ws,w=[]
 . have a:(ws.map Ie).all Ky=true:=by rw[Bp,A3];exact λ_ _=>rfl
   have b:(ws.map Ie).any K0=true:=by obtain⟨w,hw,rfl⟩:=h;exact List.any_eq_true.mpr ⟨Ie [],BF hw,rfl⟩
   rw[a,b];simp
 . have:(ws.map Ie).all Kz=true:=by
    rw[Bp,A3];intro w hw;cases w with
    | nil=>exact(h ⟨[],hw,rfl⟩).elim
    | cons p w=>rfl
   rw[this];simp
theorem Pb{S:FS}{h1:Hd}{ws:List (List WP)}{k:List D->Prop}(kf:List WP->D)(hl:ws.length<=63)(hS:∀w∈ws,S [wD w] h1 (λc h=>c=kf w/\Le h1 h) λ_ _=>False)(hd:∀w,Gm 20 (kf w)=true)(hf:HU (ws.map kf)=true)(ho:∀a b,GF (kf a) (kf b)=true)(hlt:∀a b,Gq (kf a) (kf b)=JS a b)
 (q:∀rs:List (List WP),rs.Perm ws->GD rs->k (rs.map wD)):J6 63 S (ws.map wD) h1 k:=by
 refine⟨by simpa using hl,λd hd=>?_,λd=>kf (Iz d),λd hd'=>?_,?_,λd _ c _=>ho _ _,λrs p s=>?_⟩
 . obtain⟨w,_,rfl⟩:=AG.mp hd;exact TX w
 . obtain⟨w,hw,rfl⟩:=AG.mp hd';dsimp only;rw[Jv];exact⟨hS w hw,hd w⟩
 . rw[B8];have:(ws.map ((λd=>kf (Iz d))∘wD))=ws.map kf:=BO λw _=>by simp[Jv]
   rw[this];exact hf
 . have e:rs=(rs.map Iz).map wD:=by
    rw[B8];have:rs.map (wD∘Iz)=rs.map id:=BO λd hd=>by obtain⟨w,_,rfl⟩:=AG.mp (p.mem_iff.mp hd);simp[Jv]
    rw[this,Fi]
   rw[e];refine q _ ?_ ?_
   . have:=p.map Iz;rw[B8,show(ws.map (Iz∘wD))=ws.map id from BO λw _=>by simp[Jv],Fi] at this;exact this
   . unfold GD;rw[BE];exact s.imp λ{a b}h=>by rw[<-hlt];exact h
theorem VH{S:FS}{h1:Hd}{ws:List (List WP)}{k:List D->Prop}(hl:ws.length<=63)(hS:∀w∈ws,S [wD w] h1 (λc h=>c=IG w/\Le h1 h) λ_ _=>False)(q:∀rs:List (List WP),rs.Perm ws->GD rs->k (rs.map wD)):J6 63 S (ws.map wD) h1 k:=
 Pb IG hl hS Vi (Wv ws) Za V7 q
theorem PH{S:FS}{h1:Hd}{ws:List (List WP)}{k:List D->Prop}(hl:ws.length<=63)(hS:∀w∈ws,S [wD w] h1 (λc h=>c=Ie w/\Le h1 h) λ_ _=>False)(q:∀rs:List (List WP),rs.Perm ws->GD rs->k (rs.map wD)):J6 63 S (ws.map wD) h1 k:=
 Pb Ie hl hS Vh (Wt ws) Y_ V6 q
theorem P8{d e:D}(h:Gf d e=true):d=e:=(Kk d e).mp h
theorem VN{a b:D}(h:a≠b):Gf a b=false:=by rw[<-ID];exact decide_eq_false h
theorem RA{ks:List D}{x:D}(h:ks.any (λk=>Gf k x)=false):G2 ks x=ks++[x]:=by
 induction ks with
 | nil=>rfl
 | cons k ks ih=> rw[CC,F5] at h;rw[G2,h.1,ih h.2];rfl
theorem Zo{ks:List D}{x:D}(h:ks.any (λk=>Gf k x)=true):G2 ks x=ks:=by
 induction ks with
 | nil=>cases h
 | cons k ks ih=>
  rw[G2];cases e:Gf k x with
  | true=>rfl
  | false=>rw[CC,e,Bool.false_or] at h;rw[ih h];rfl
theorem RB{x y:D}:∀{ks vs:List D},ks.any (λk=>Gf k x)=false->ks.length=vs.length->Hb ks vs x y=vs++[y]
 | [],[],_,_=>rfl
 | k::ks,v::vs,h,l=>by rw[CC,F5] at h;rw[Hb,h.1,RB h.2 (Cm l)];rfl
theorem L5(ks:List D)(x:D):ks.any (λk=>Gf k x)=decide (x∈ks):=by rw[A8,CA,decide_eq_true_iff];exact⟨λ⟨k,hk,e⟩=>P8 e ▸ hk,λm=>⟨x,m,L9 x⟩⟩
theorem NX{x y:D}:∀{ks vs:List D},ks.length=vs.length->∀z,G7 (G2 ks x) (Hb ks vs x y) z=if z=x then some y else G7 ks vs z
 | [],[],_,z=>by
  simp only[G2,Hb,G7];rw[<-ID];by_cases e:z=x
  . subst e;simp
  . rw[if_neg e,decide_eq_false (Be e)];rfl
 | k::ks,v::vs,l,z=>by
  simp only[G2,Hb];rw[<-ID];by_cases e:k=x
  . subst e;simp only[decide_true,cond_true,G7];rw[<-ID];by_cases e:z=k
    . subst e;simp
    . rw[if_neg e,decide_eq_false (Be e)];rfl
  . rw[decide_eq_false e];simp only[cond_false,G7];rw[<-ID];by_cases e2:k=z
    . subst e2;simp[e]
    . rw[decide_eq_false e2];exact NX (Cm l) z
theorem NQ{x y:D}:∀{ks vs:List D},ks.length=vs.length->(G2 ks x).length=(Hb ks vs x y).length
 | [],[],_=>rfl
 | k::ks,v::vs,l=>by
  simp only[G2,Hb];cases Gf k x
  . simpa using NQ (Cm l)
  . simpa using l
theorem Rd{x z:D}:∀{ks:List D},z∈G2 ks x↔z∈ks\/z=x
 | []=>by simp[G2]
 | k::ks=>by
  simp only[G2,Ag];cases e:Gf k x
  . simp only[cond_false,Rd (ks:=ks),or_assoc]
  . simp only[cond_true];have:=P8 e;subst this;constructor
    . rintro(h | h)
      . exact .inr h
      . exact .inl (.inr h)
    . rintro((h | h) | h)
      . exact .inl h
      . exact .inr h
      . exact .inl h
theorem LG{z:D}:∀{ks vs:List D},z ∉ ks->G7 ks vs z=none
 | [],_,_=>by simp[G7]
 | k::ks,[],_=>by simp[G7]
 | k::ks,v::vs,h=>by have ne:k≠z:=λe=>h (by rw[e];exact .head _);rw[G7,VN ne];exact LG λm=>h (.tail _ m)
theorem Ol{z:D}:∀{ks vs:List D},ks.length=vs.length->z∈ks->∃d,G7 ks vs z=some d
 | k::ks,v::vs,l,m=>by
  rw[G7,<-ID];by_cases e:k=z
  . exact⟨v,by simp[e]⟩
  . rw[decide_eq_false e];exact Ol (Cm l) ((Ag.mp m).resolve_left (Be e))
theorem R8{x:D}:∀{ks vs:List D},ks.Nodup->∀z,G7 (Ig ks x) (Iv ks vs x) z=if z=x then none else G7 ks vs z
 | [],vs,_,z=>by simp[Ig,Iv,G7]
 | k::ks,[],nd,z=>by
  have:∀l:List D,G7 l [] z=none:=λl=>by cases l<;>rfl
  simp only[Iv,this,G7]
  split<;>rfl
 | k::ks,v::vs,nd,z=>by
  simp only[Ig,Iv];rw[<-ID];obtain⟨n1,n2⟩:=AL.mp nd;by_cases e:k=x
  . subst e;simp only[decide_true,cond_true,G7];rw[<-ID];by_cases e:z=k
    . subst e;rw[if_pos rfl];exact LG n1
    . rw[if_neg e,decide_eq_false (Be e)];rfl
  . rw[decide_eq_false e];simp only[cond_false,G7];rw[<-ID];by_cases e2:k=z
    . subst e2;simp[e]
    . rw[decide_eq_false e2];exact R8 n2 z
theorem Qg{x:D}:∀{ks vs:List D},ks.length=vs.length->(Ig ks x).length=(Iv ks vs x).length
 | [],[],_=>rfl
 | k::ks,v::vs,l=>by
  simp only[Ig,Iv];cases Gf k x
  . simpa using Qg (Cm l)
  . simpa using l
structure Dic{α:Type}(c:α->D)(t:Bool)(h:Hd)(a:Addr)(f:α->Option D):Prop where
 ex:∃(xs:List α)(vs:List D),h a=some (.dct t (xs.map c) vs)/\xs.length=vs.length/\xs.Nodup/\∀x,G7 (xs.map c) vs (c x)=f x
structure KeyC{α:Type}(c:α->D)(t:Bool):Prop where
 inj:∀a b,c a=c b->a=b
 key:∀a,G3 t (c a)=true
theorem key_wish:KeyC wD true:=⟨λ_ _ h=>PM h,Lo⟩
theorem Iw:KeyC D.str false:=⟨λ_ _ h=>by cases h;rfl,λ_=>rfl⟩
section
variable{α:Type}{c:α->D}{t:Bool}{h h':Hd}{a:Addr}{f:α->Option D}
theorem KeyC.mem(k:KeyC c t){x:α}{xs:List α}:c x∈xs.map c↔x∈xs:=by rw[List.mem_map];exact⟨λ⟨y,hy,e⟩=>k.inj _ _ e ▸ hy,λm=>⟨x,m,rfl⟩⟩
theorem KeyC.nd(k:KeyC c t){xs:List α}(n:xs.Nodup):(xs.map c).Nodup:=by unfold List.Nodup;rw[BE];exact n.imp λh e=>h (k.inj _ _ e)
theorem KeyC.put(k:KeyC c t)[DecidableEq α](xs:List α)(x:α):G2 (xs.map c) (c x)=((if x∈xs then xs else xs++[x]).map c):=by
 by_cases m:x∈xs
 . rw[if_pos m,Zo];rw[L5,decide_eq_true_iff];exact k.mem.mpr m
 . rw[if_neg m,RA,AS];rfl;rw[L5,decide_eq_false_iff_not];exact λz=>m (k.mem.mp z)
theorem KeyC.del(k:KeyC c t)[DecidableEq α](x:α):∀xs:List α,Ig (xs.map c) (c x)=(xs.erase x).map c
 | []=>rfl
 | y::xs=>by
  rw[Aj,Ig,<-ID];by_cases e:y=x
  . subst e;simp
  . rw[decide_eq_false λz=>e (k.inj _ _ z),List.erase_cons_tail (by simpa using e),cond_false,Aj,k.del x xs]
theorem Dic.cg(d:Dic c t h a f)(e:h' a=h a):Dic c t h' a f:=⟨let⟨xs,vs,q⟩:=d.ex;⟨xs,vs,by rw[e];exact q.1,q.2⟩⟩
theorem Dic.nil:Dic c t (put h a (.dct t [] [])) a (λ_=>none):=⟨[],[],put_same,rfl,.nil,λ_=>rfl⟩
theorem Dic.set(k:KeyC c t)[DecidableEq α](d:Dic c t h a f)(x:α)(y:D):∃ks vs,h a=some (.dct t ks vs)/\Dic c t (put h a (.dct t (G2 ks (c x)) (Hb ks vs (c x) y))) a (λz=>if z=x then some y else f z)/\∀z,(G7 ks vs (c z))=f z:=by
 obtain⟨xs,vs,e,l,nd,q⟩:=d.ex;refine⟨_,_,e,⟨if x∈xs then xs else xs++[x],_,by rw[put_same,k.put],?_,?_,λz=>?_⟩,q⟩
 . have:=NQ (x:=c x) (y:=y) (ks:=xs.map c) (vs:=vs) (by simpa using l);rw[k.put,Ac] at this;exact this
 . split
   . exact nd
   . rename_i m;exact AZ.mpr ⟨nd,by simp,λa ha b hb=>by rw[Af] at hb;subst hb;exact λz=>m (z ▸ ha)⟩
 . rw[<-k.put,NX (by simpa using l),q];by_cases e:z=x
   . rw[if_pos e,if_pos (by rw[e])]
   . rw[if_neg e,if_neg λw=>e (k.inj _ _ w)]
theorem Dic.del(k:KeyC c t)[DecidableEq α](d:Dic c t h a f)(x:α):∃ks vs,h a=some (.dct t ks vs)/\Dic c t (put h a (.dct t (Ig ks (c x)) (Iv ks vs (c x)))) a (λz=>if z=x then none else f z)/\ks.any (λz=>Gf z (c x))=(f x).isSome:=by
 obtain⟨xs,vs,e,l,nd,q⟩:=d.ex;have l':(xs.map c).length=vs.length:=by simpa using l
 refine⟨_,_,e,⟨xs.erase x,_,by rw[put_same,k.del],?_,nd.erase _,λz=>?_⟩,?_⟩
 . have:=Qg (x:=c x) l';rw[k.del,Ac] at this;exact this
 . rw[<-k.del,R8 (k.nd nd),q];by_cases e:z=x
   . rw[if_pos e,if_pos (by rw[e])]
   . rw[if_neg e,if_neg λw=>e (k.inj _ _ w)]
 . rw[L5,<-q];by_cases m:c x∈xs.map c
   . obtain⟨d,e⟩:=Ol l' m;rw[e,decide_eq_true m];rfl
   . rw[LG m,decide_eq_false m];rfl
theorem Dic.row(k:KeyC c t)(d:Dic c t h a f):∃(xs:List α)(vs:List D),h a=some (.dct t (xs.map c) vs)/\xs.Nodup/\(∀x,x∈xs↔(f x).isSome=true)/\(∀x,G7 (xs.map c) vs (c x)=f x)/\∀x,(xs.map c).any (λz=>Gf z (c x))=(f x).isSome:=by
 obtain⟨xs,vs,e,l,nd,q⟩:=d.ex;have l':(xs.map c).length=vs.length:=by simpa using l
 have m:∀x,c x∈xs.map c↔(f x).isSome=true:=λx=>by
  rw[<-q];by_cases m:c x∈xs.map c
  . obtain⟨d,e⟩:=Ol l' m;rw[e];simpa using m
  . rw[LG m];simpa using m
 exact⟨xs,vs,e,nd,λx=>by rw[<-k.mem];exact m x,q,λx=>by rw[L5,A8,decide_eq_true_iff];exact m x⟩
end
section
variable{g:GT}{t:GC}{E:DEnds}{C:Hd->Prop}{U:G1}{Te:TD}{e:G9}{k:List D->Hd->Prop}
theorem Hf(Pv:List D->Sd->Hd->Prop)(hc:∀ds σ h,Pv ds σ h->C h)(hs:∀d ds σ h(N:Sd->Hd->Prop),Pv (d::ds) σ h->(∀σ' h',Pv ds σ' h'->N σ' h')->g d σ h λσ2 h2=>t {E with nx:=N,ct:=N,bk:=E.nx} σ2 h2)(he:∀σ h,Pv [] σ h->E.nx σ h):∀(ds:List D){σ:Sd}{h:Hd},Pv ds σ h->J9 g t E C ds σ h
 | [],σ,h,p=>⟨hc _ _ _ p,he _ _ p⟩
 | d::ds,σ,h,p=>⟨hc _ _ _ p,hs d ds σ h _ p λσ' h' p'=>Hf Pv hc hs he ds p'⟩
theorem Lf(Pv:List D->Sd->List D->Hd->Prop)(hc:∀ds σ a h,Pv ds σ a h->C h)(hs:∀d ds σ a h N,Pv (d::ds) σ a h->(∀σ' a' h',Pv ds σ' a' h'->N σ' a' h')->Ho g U Te e d σ h a N)(he:∀σ a h,Pv [] σ a h->k a h):∀(ds:List D){σ:Sd}{a:List D}{h:Hd},Pv ds σ a h->HK g U Te e C k ds σ a h
 | [],σ,a,h,p=>⟨hc _ _ _ _ p,he _ _ _ p⟩
 | d::ds,σ,a,h,p=>⟨hc _ _ _ _ p,hs d ds σ a h (λσ2 a2 h2=>HK g U Te e C k ds σ2 a2 h2) p λσ' a' h' p'=>Lf Pv hc hs he ds p'⟩
end
theorem UnpTo.put{h1 h:Hd}{a:Addr}{t:Bool}{ep:Nat}{ks vs:List D}(u:UnpTo h1 h)(e:h a=some (.dct t ks vs)):UnpTo (put h1 a (.wlk t ep ks vs)) h:=λb=>by
 by_cases hb:b=a
 . subst hb;exact .inr ⟨t,ep,ks,vs,put_same,e⟩
 . rw[FR hb];exact u b
theorem WA{k:List D->(Hd->Prop)->Hd->Prop}{o:D}{h:Hd}{ds:List D}(r:Hg h o=some ds)(q:∀h1(C:Hd->Prop),UnpTo h1 h->(∀h',(∀a,o= .ref a->h' a=h1 a)->C h')->k ds C h1):Ht k o h:=by
 unfold Hg at r;cases o with
 | ref a=>
  dsimp only at r;cases e:h a with
  | none=>rw[e] at r;cases r
  | some u=>
   rw[e] at r;cases u with
   | lst xs=>cases r;exact ND e (q h _ (.refl h) λh' q=>(q a rfl).trans e)
   | dct t ks vs=>cases r;exact Kj e λep=>q _ _ (UnpTo.one e) λh' q=>(q a rfl).trans put_same
   | wlk t ep ks vs=>cases r;exact NE e (q h _ (.refl h) λh' q=>(q a rfl).trans e)
   | ins C fs=>cases r
 | lst xs=>cases r;exact Hc (q h _ (.refl h) λh' _=>True.intro)
 | tup xs=>cases r;exact L8 (q h _ (.refl h) λh' _=>True.intro)
 | _=>cases r
noncomputable def IN(h:Hd)(a:Addr)(t:Bool)(ks vs:List D):Prop:=h a=some (.dct t ks vs)\/∃ep,h a=some (.wlk t ep ks vs)
noncomputable def YO:FS:=λds h k _=>match ds with
 | [x]=>∃o,x=oD o/\k (.bl o.isSome) h
 | _=>False
noncomputable def VD:FS:=λds h k _=>match ds with
 | [x]=>∃o,x=oD o/\k (.bl true) h
 | _=>False
noncomputable def X5:FS:=λds h k _=>match ds with
 | [x]=>∃lo hi,x= .tup [oD lo,oD hi]/\Kv lo hi=true/\k (.bl true) h
 | _=>False
noncomputable def YI:FS:=λds h k _=>match ds with
 | [x,y]=>∃a b c d,x= .tup [oD a,oD b]/\y= .tup [oD c,oD d]/\k (.bl (Ia a b c d)) h
 | _=>False
noncomputable def YB:FS:=λds h k _=>match ds with
 | [x]=>∃f,x= .str f/\FieldOk f/\k (.bl true) h
 | _=>False
noncomputable def X2:FS:=λds h k _=>match ds with
 | [x]=>∃p,x=pD p/\FieldOk p.1/\Kv p.2.1 p.2.2=true/\k (.bl true) h
 | _=>False
noncomputable def NM(r:D):FS:=λds h k _=>match ds with
 | [x]=>∃w:List WP,x=wD w/\WOk w/\k r h
 | _=>False
noncomputable def Os(r:D):FS:=λds h k _=>match ds with
 | [x]=>∃ws:List (List WP),x= .lst (ws.map wD)/\(∀w∈ws,WOk w)/\ws.Nodup/\ws.length<=63/\k r h
 | _=>False
noncomputable def sD(p:WP):D:= .tup [oD p.2.1,oD p.2.2]
noncomputable def PG(w:List WP):OD:= .dct false (w.map λp=> .str p.1) (w.map sD)
noncomputable def ZA:FS:=λds h k _=>match ds with
 | [x]=>∃w:List WP,x=wD w/\WOk w/\∀p,h p=none->k (.ref p) (put h p (PG w))
 | _=>False
noncomputable def Z9:FS:=λds h k _=>match ds with
 | [x,y]=>∃w w' d,x=wD w/\y= .ref d/\IN h d false (w'.map λp=> .str p.1) (w'.map sD)/\k (.bl (Gg w w')) h
 | _=>False
noncomputable def FW(ws:List (List WP))(w:List WP):Bool:=ws.any λo=>Gg o w && !decide (o=w)
theorem ML{ws:List (List WP)}{w:List WP}:FW ws w=true↔∃o∈ws,Gg o w=true/\o≠w:=by unfold FW;rw[CA];simp
theorem undW_not{ws:List (List WP)}{w:List WP}:(!FW ws w)=true↔∀o∈ws,Gg o w=true->o=w:=by rw[Dz,Bool.eq_false_iff,Ne,ML];exact⟨λh o ho r=>AE λz=>h ⟨o,ho,r,z⟩,λh ⟨o,ho,r,z⟩=>z (h o ho r)⟩
noncomputable def YN:FS:=λds h k _=>match ds with
 | [x,o]=>∃(w:List WP)(ws:List (List WP)),x=wD w/\WOk w/\Hg h o=some (ws.map wD)/\(∀v∈ws,WOk v)/\k (.bl (FW ws w)) h
 | _=>False
noncomputable def YM:FS:=λds h k _=>match ds with
 | [x]=>∃ws:List (List WP),x= .lst (ws.map wD)/\(∀v∈ws,WOk v)/\∀qs,IsTop ws qs->(∀q∈qs,q∈ws)->k (.lst (qs.map wD)) h
 | _=>False
noncomputable def Q7:FS:=λds h k _=>match ds with
 | [x]=>∃w:List WP,x=wD w/\w.length<=1000/\k (IG w) h
 | _=>False
noncomputable def VE:FS:=λds h k _=>match ds with
 | [x]=>∃o,x=oD o/\k (d2 (HP o)) h
 | _=>False
noncomputable def Xy:FS:=λds h k _=>match ds with
 | [x]=>∃o,x=oD o/\k (d2 (HQ o)) h
 | _=>False
theorem Nt{h:Hd}{x:D}{ds:List D}(e:seqL h x=some ds):GW h x=some ds:=by unfold GW;rw[e]
theorem Nr{h:Hd}{a:Addr}{t:Bool}{ks vs:List D}(e:h a=some (.dct t ks vs)):GW h (.ref a)=some ks:=by simp[GW,seqL,e]
noncomputable def YF:FS:=λds h k _=>match ds with
 | [x]=>∃ws:List (List WP),GW h x=some (ws.map wD)/\(∀v∈ws,WOk v)/\ws.length<=63/\∀rs,rs.Perm ws->GD rs->k (.lst (rs.map wD)) h
 | _=>False
theorem FZ{b:Bool}{p q:Prop}(h:b=true)(x:p):bif b then p else q:=by rw[h];exact x
theorem Gy{b:Bool}{p q:Prop}(h:b=false)(x:q):bif b then p else q:=by rw[h];exact x
section
variable{T:IC}{g:GT}{t u s:GC}{E:DEnds}{σ:Sd}{h:Hd}{Te:TD}{U:G1}{d:D}{i:Nat}
theorem KV(q:T σ h (λds C h1=>J9 g t {E with nx:=u E} C ds σ h1) (E.xc σ)):GA (K9 T g t) u E σ h:=q
theorem HE(hi:IB σ i=some d)(q:Ht (λds C h1=>J9 g t {E with nx:=u E} C ds σ h1) d h):GA (K9 (JU (FN i)) g t) u E σ h:=KV (IF hi q)
theorem FX(q:Te σ h (λd h1=>g d σ h1 (u E)) (E.xc σ)):GA (Go Te g) u E σ h:=q
theorem Ii(q:U σ h (λc h1=>bif c then t {E with nx:=u E} σ h1 else s {E with nx:=u E} σ h1) (E.xc σ)):GA (G4 U t s) u E σ h:=q
theorem La(q:Te σ h (λ_ h1=>u E σ h1) (E.xc σ)):GA (Iu Te) u E σ h:=q
theorem Jq{h':Hd}(p:UnpTo h h')(q:t E σ h'):K5 t E σ h:=⟨h',p,q⟩
end
section
variable{h:Hd}{a:Addr}{t neg:Bool}{ks vs:List D}{x y d:D}{k:DK}
theorem M3(e:IN h a t ks vs)(hk:G3 t x=true)(q:k (.bl (bif neg then !ks.any λz=>Gf z x else ks.any λz=>Gf z x)) h):GN neg x (.ref a) h k:=by
 rcases e with e | ⟨ep,e⟩
 . simp only[GN,e,K2,LZ,HX,hk,cond_true];exact q
 . simp only[GN,e,LI,Ll,hk,cond_true];exact q
theorem L3(e:IN h a t ks vs)(hk:G3 t y=true)(l:G7 ks vs y=some d)(q:k d h):Gn (.ref a) y h k:=by
 rcases e with e | ⟨ep,e⟩
 . simp only[Gn,e,J0,IK,HX,hk,cond_true,l];exact q
 . simp only[Gn,e,LH,Ll,hk,cond_true,l];exact q
theorem Dic.has{α:Type}{c:α->D}{f:α->Option D}(k:KeyC c t)(e:Dic c t h a f)(z:α):∃ks vs,IN h a t ks vs/\(ks.any λw=>Gf w (c z))=(f z).isSome/\G7 ks vs (c z)=f z:=by obtain⟨xs,vs,e,nd,m,l,an⟩:=e.row k;exact⟨_,_,.inl e,an z,l z⟩
theorem N0{α:Type}{c:α->D}{f:α->Option D}(k0:KeyC c t)(e:Dic c t h a f)(z:α)(q:k (.bl (bif neg then !(f z).isSome else(f z).isSome)) h):GN neg (c z) (.ref a) h k:=by obtain⟨ks,vs,e,an,l⟩:=e.has k0 z;exact M3 e (k0.key z) (by rw[an];exact q)
theorem KW{α:Type}{c:α->D}{f:α->Option D}(k0:KeyC c t)(e:Dic c t h a f)(z:α)(l:f z=some d)(q:k d h):Gn (.ref a) (c z) h k:=by obtain⟨ks,vs,e,an,l'⟩:=e.has k0 z;exact L3 e (k0.key z) (l'.trans l) q
theorem IJ{ws:List (List WP)}{w:List WP}(ok:∀v∈ws,WOk v)(hw:WOk w)(q:k (.bl (bif neg then !decide (w∈ws) else decide (w∈ws))) h):GN neg (wD w) (.lst (ws.map wD)) h k:=by
 show(bif G0 50 (ws.map wD) && Gm 50 (wD w) then k (.bl (bif neg then !(ws.map wD).any λd=>Gr d (wD w) else(ws.map wD).any λd=>Gr d (wD w))) h else False)
 rw[Py ok,Ls hw,OV ok hw];exact q
theorem Pe{ws:List (List WP)}{w:List WP}(e:h a=some (.lst (ws.map wD)))(ok:∀v∈ws,WOk v)(hw:WOk w)(q:k (.bl (bif neg then !decide (w∈ws) else decide (w∈ws))) h):GN neg (wD w) (.ref a) h k:=by
 simp only[GN,e,K2,LX,seqD,seqL];show(bif G0 50 (ws.map wD) && Gm 50 (wD w) then k (.bl (bif neg then !(ws.map wD).any λd=>Gr d (wD w) else(ws.map wD).any λd=>Gr d (wD w))) h else False)
 rw[Py ok,Ls hw,OV ok hw];exact q
theorem Pk{u v:List WP}(hu:WOk u)(hv:WOk v)(q:k (.bl (bif neg then !decide (u=v) else decide (u=v))) h):Ip neg (wD u) (wD v) h k:=by
 show(bif Gm 50 (wD u) && Gm 50 (wD v) then k (.bl (bif neg then !Gr (wD u) (wD v) else Gr (wD u) (wD v))) h else False)
 rw[Ls hu,Ls hv,K3 hu hv];exact q
theorem JZ{α:Type}{xs:List α}(q:k (.bl true) h):Jj (λx=>x.all id) [.lst (xs.map λ_=> .bl true)] h k:=by
 show(bif (xs.map λ_=>D.bl true).all Lh then k (.bl (((xs.map λ_=>D.bl true).map Ko).all id)) h else False)
 have e1:(xs.map λ_=>D.bl true).all Lh=true:=by rw[Bp,A3];exact λ_ _=>rfl
 have e2:((xs.map λ_=>D.bl true).map Ko).all id=true:=by rw[B8,Bp,A3];exact λ_ _=>rfl
 rw[e1,e2];exact q
end
section
variable{g:GT}{U:G1}{Te:TD}{e:G9}{C:Hd->Prop}{h:Hd}{k:List D->Hd->Prop}
theorem IY{α:Type}(c:α->D)(f:α->D)(Pv:Sd->Prop)(hC:C h):∀(xs:List α){σ:Sd}{acc:List D},Pv σ->
 (∀x∈xs,∀σ acc N,Pv σ->(∀σ2,Pv σ2->N σ2 (acc++[f x]) h)->Ho g U Te e (c x) σ h acc N)->k (acc++xs.map f) h->HK g U Te e C k (xs.map c) σ acc h
 | [],σ,acc,p,hs,q=>⟨hC,by simpa using q⟩
 | x::xs,σ,acc,p,hs,q=>⟨hC,hs x (.head _) σ acc (λσ2 acc2 h2=>HK g U Te e C k (xs.map c) σ2 acc2 h2) p λσ2 p2=>IY c f Pv hC xs p2 (λy hy=>hs y (.tail _ hy)) (by simpa using q)⟩
theorem HD{α:Type}(c:α->D)(b:α->Bool)(Pv:Sd->Prop)(hC:C h):∀(xs:List α){σ:Sd}{acc:List D},Pv σ->
 (∀x∈xs,∀σ acc N,Pv σ->(∀σ2,Pv σ2->N σ2 (bif b x then acc++[c x] else acc) h)->Ho g U Te e (c x) σ h acc N)->k (acc++(xs.filter b).map c) h->HK g U Te e C k (xs.map c) σ acc h
 | [],σ,acc,p,hs,q=>⟨hC,by simpa using q⟩
 | x::xs,σ,acc,p,hs,q=>by
  refine⟨hC,hs x (.head _) σ acc (λσ2 acc2 h2=>HK g U Te e C k (xs.map c) σ2 acc2 h2) p λσ2 p2=>HD c b Pv hC xs p2 (λy hy=>hs y (.tail _ hy)) ?_⟩;cases eb:b x with
  | true=>simpa [eb] using q
  | false=>simpa [eb] using q
end
theorem R2{w:List WP}{f:Str}:((w.map λp=>D.str p.1).any λz=>Gf z (.str f))=(HF w f).isSome:=by unfold HF;rw[List.any_map,Option.isSome_map,A8,CA,List.find?_isSome];simp[Ln]
theorem RL{f:Str}{s:Option Int×Option Int}:∀{w:List WP},HF w f=some s->G7 (w.map λp=>D.str p.1) (w.map sD) (.str f)=some (.tup [oD s.1,oD s.2])
 | [],h=>by cases h
 | p::w,h=>by
  rw[Aj,Aj,G7,Ln];unfold HF at h;by_cases e:p.1=f
  . rw[Fj (by simpa using e)] at h;cases h;rw[decide_eq_true e];rfl
  . rw[Fl (by simpa using e)] at h;rw[decide_eq_false e];exact RL h
theorem RW{kf vf:D->D}:∀(ds:List D)(ks vs:List D),ks.length=vs.length->(ks++ds.map kf).Nodup->Hn kf vf ds (ks,vs)=(ks++ds.map kf,vs++ds.map vf)
 | [],ks,vs,_,_=>by simp[Hn]
 | d::ds,ks,vs,l,nd=>by
  have hn:ks.any (λk=>Gf k (kf d))=false:=by rw[L5,decide_eq_false_iff_not];intro m;rw[AZ] at nd;exact nd.2.2 _ m _ (by simp) rfl
  rw[Hn,RA hn,RB hn l,RW ds _ _ (by simpa using l) (by simpa using nd)];simp
theorem ZZ{w:List WP}(ok:WOk w):Hn (λd=> .str (Jw d).1) (λd=>sD (Jw d)) (w.map pD) ([],[])=(w.map (λp=>D.str p.1),w.map sD):=by
 have e1:(w.map pD).map (λd=>D.str (Jw d).1)=w.map λp=>D.str p.1:=by rw[B8];exact BO λp _=>by simp[Mw]
 have e2:(w.map pD).map (λd=>sD (Jw d))=w.map sD:=by rw[B8];exact BO λp _=>by simp[Mw]
 rw[RW _ _ _ rfl,e1,e2,A5,A5];rw[e1,A5];unfold List.Nodup;rw[BE];have:=ok.asc;rw[BE] at this;exact this.imp λ{a b}h=>λ(e:D.str a.1=D.str b.1)=>PC h (D.str.inj e)
theorem Xu{h:Hd}{p:Addr}{u:OD}{o:D}{ds:List D}(hp:h p=none)(r:Hg h o=some ds):Hg (put h p u) o=Hg h o:=by
 cases o with
 | ref a=>
  have:a≠p:=by rintro rfl;unfold Hg at r;simp only[hp] at r;cases r
  simp only[Hg,FR this]
 | _=>rfl
theorem R4{h1 h:Hd}{p:Addr}{t:Bool}{ks vs:List D}(u:UnpTo h1 h)(e:h p=some (.dct t ks vs)):IN h1 p t ks vs:=by
 rcases u p with z | ⟨t',ep,ks',vs',z,z'⟩
 . exact .inl (z ▸ e)
 . rw[e] at z';cases z';exact .inr ⟨ep,z⟩
section
variable{M:Nat}{S:FS}{σ:Sd}{h:Hd}{k:List D->Hd->Prop}{e:G9}{i:Nat}{x:D}{ds:List D}
theorem Xv(hx:GW h x=some ds)(q:J6 M S ds h λrs=>k rs h)(hi:IB σ i=some x:=by rfl):KU M S (FL (FN i) FK) σ h k e:=by unfold KU FL FK;refine FI hi ?_;simp only[hx];exact q
end
theorem YX{w:List WP}(ok:WOk w):∃ps:List (WP×WP),Jo (w.map pD) (GB (w.map pD) (some 1) none)=ps.map (λp=>D.tup [pD p.1,pD p.2])/\∀p∈ps,Hz p.1.1 p.2.1:=by
 have asc:=ok.asc;rw[BE] at asc;have e:GB (w.map pD) (some 1) none=(w.drop 1).map pD:=by
  cases w with
  | nil=>rfl
  | cons p w=>
   unfold GB;have a:HT.sIx (((p::w).map pD).length) 0 (some 1)=1:=by simp[HT.sIx]
   have b:HT.sIx (((p::w).map pD).length) (((p::w).map pD).length) none=w.length+1:=by simp[HT.sIx]
   rw[a,b];simp;rw[B9 (by simp)]
 rw[e];clear e ok;refine⟨w.zip (w.drop 1),?_,λp hp=>?_⟩
 . simp only[Jo,List.zip,List.map_zipWith,List.zipWith_map]
 . induction w with
   | nil=>cases hp
   | cons p0 w ih=>
    cases w with
    | nil=>cases hp
    | cons p1 w=>
     rcases Ag.mp hp with rfl | hp
     . exact(Et.mp asc).1 p1 (.head _)
     . exact ih (Et.mp asc).2 hp
theorem RH{kf vf:D->D}:∀(ds:List D)(r:List D×List D),∀z,z∈(Hn kf vf ds r).1↔z∈r.1\/z∈ds.map kf
 | [],r,z=>by simp[Hn]
 | d::ds,r,z=>by rw[Hn,RH ds,Rd];simp[or_assoc]
theorem Rs{kf vf:D->D}:∀(ds:List D)(r:List D×List D),r.1.Nodup->(Hn kf vf ds r).1.Nodup
 | [],r,n=>n
 | d::ds,r,n=>Rs ds _ (LD n)
theorem PL(ws:List (List WP)):∃(us:List (List WP))(vs:List D),Hn (λd=>d) (λ_=> .bl true) (ws.map wD) ([],[])=(us.map wD,vs)/\us.Nodup/\∀w,w∈us↔w∈ws:=by
 have m:=RH (kf:=λd=>d) (vf:=λ_=>D.bl true) (ws.map wD) ([],[]);have nd:=Rs (kf:=λd=>d) (vf:=λ_=>D.bl true) (ws.map wD) ([],[]) .nil;generalize Hn (λd=>d) (λ_=>D.bl true) (ws.map wD) ([],[])=r at m nd;obtain⟨ks,vs⟩:=r;simp only[AC,false_or,List.map_id'] at m;have e:ks=(ks.map Iz).map wD:=by rw[B8,show ks.map (wD∘Iz)=ks.map id from BO λd hd=>?_,Fi];obtain⟨w,_,rfl⟩:=AG.mp ((m d).mp hd);simp[Jv]
 refine⟨ks.map Iz,vs,by rw[<-e],?_,λw=>?_⟩
 . rw[e] at nd;unfold List.Nodup at nd ⊢;rw[BE] at nd;exact nd.imp λh z=>h (by rw[z])
 . rw[<-key_wish.mem,<-e,m,key_wish.mem]
theorem He{α:Type}:∀(l m:List α),l.Nodup->(∀x∈l,x∈m)->l.length<=m.length
 | [],_,_,_=>AK _
 | x::l,m,nd,h=>by
  obtain⟨n1,n2⟩:=AL.mp nd;obtain⟨a,b,rfl⟩:=List.append_of_mem (h x (.head _));have:=He l (a++b) n2 λy hy=>by
   have:=h y (.tail _ hy);rw[Aq,Ag] at this;rw[Aq];rcases this with z | z | z
   . exact .inl z
   . exact(n1 (z ▸ hy)).elim
   . exact .inr z
  simp only[Ao,Ah] at this ⊢;lia
section
variable{α:Type}{c:α->D}{t neg:Bool}{h hh:Hd}{a:Addr}{f:α->Option D}{k:DK}{d y:D}
theorem UnpTo.has{ks vs:List D}(u:UnpTo hh h)(e:h a=some (.dct t ks vs)):IN hh a t ks vs:=R4 u e
theorem UnpTo.ins{C:Str}{fs:List (Str×D)}(u:UnpTo hh h)(e:h a=some (.ins C fs)):hh a=some (.ins C fs):=by
 rcases u a with z | ⟨t,ep,ks,vs,_,z⟩
 . rw[<-z];exact e
 . rw[e] at z;cases z
theorem L0(k0:KeyC c t)(u:UnpTo hh h)(e:Dic c t h a f)(z:α)(q:k (.bl (bif neg then !(f z).isSome else(f z).isSome)) hh):GN neg (c z) (.ref a) hh k:=by obtain⟨xs,vs,e,nd,m,l,an⟩:=e.row k0;exact M3 (u.has e) (k0.key z) (by rw[an];exact q)
theorem KL{kk:List D->(Hd->Prop)->Hd->Prop}(k0:KeyC c t)(u:UnpTo hh h)(e:Dic c t h a f)(q:∀(xs:List α)h2(C:Hd->Prop),UnpTo h2 h->xs.Nodup->(∀x,x∈xs↔(f x).isSome=true)->(∀h',h' a=h2 a->C h')->kk (xs.map c) C h2):Ht kk (.ref a) hh:=by
 obtain⟨xs,vs,e,nd,m,l',an⟩:=e.row k0;rcases u.has e with z | ⟨ep,z⟩
 . exact Kj z λep=>q xs _ _ (u.put e) nd m λh' w=>w.trans put_same
 . exact NE z (q xs _ _ u nd m λh' w=>w.trans z)
theorem TY(k0:KeyC c t)(u:UnpTo hh h)(e:Dic c t h a f):∃xs:List α,Hg hh (.ref a)=some (xs.map c)/\xs.Nodup/\∀x,x∈xs↔(f x).isSome=true:=by obtain⟨xs,vs,e,nd,m,l',an⟩:=e.row k0;refine⟨xs,?_,nd,m⟩;rcases u.has e with z | ⟨ep,z⟩<;>simp only[Hg,z]
theorem KI{N:Hd->Prop}[DecidableEq α](k0:KeyC c t)(e:Dic c t h a f)(z:α)(hz:(f z).isSome=true)(q:∀h',Off [a] h h'->Dic c t h' a (λw=>if w=z then none else f w)->N h'):HX (.ref a) h λa t ks vs=>bif G3 t (c z) && ks.any (λx=>Gf x (c z)) then N (put h a (.dct t (Ig ks (c z)) (Iv ks vs (c z)))) else False:=by obtain⟨ks,vs,e1,dd,an⟩:=e.del k0 z;refine M6 e1 ?_;rw[k0.key,an,hz];exact q _ ((Off.refl _ _).put (.head _)) dd
theorem Dic.few(k0:KeyC c t)(e:Dic c t h a f){L:List α}(hL:∀x,(f x).isSome=true->x∈L):∃ks vs,h a=some (.dct t ks vs)/\ks.length<=L.length:=by obtain⟨xs,vs,e,nd,m,l',an⟩:=e.row k0;exact⟨_,_,e,by rw[Ac];exact He _ _ nd λx hx=>hL x ((m x).mp hx)⟩
theorem Lv{N:Hd->Prop}[DecidableEq α](k0:KeyC c t)(e:Dic c t h a f)(z:α){L:List α}(hL:∀x,(f x).isSome=true->x∈L)(hl:L.length<An)(q:∀h',Off [a] h h'->Dic c t h' a (λw=>if w=z then some y else f w)->N h'):Hw (.ref a) (c z) y h N:=by obtain⟨ks,vs,e1,dd,an⟩:=e.set k0 z y;obtain⟨ks',vs',e2,l⟩:=e.few k0 hL;rw[e1] at e2;cases e2;simp only[Hw,e1,KJ,HX,k0.key,cond_true];exact⟨BJ l hl,q _ ((Off.refl _ _).put (.head _)) dd⟩
theorem On{To Ti:TD}{σ:Sd}{e:G9}(k0:KeyC c t)(dd:Dic c t h a f)(z:α)(hT:∀k':DK,k' (.ref a) h->To σ h k' e)(hI:∀k':DK,k' (c z) h->Ti σ h k' e)(q:k ((f z).getD d) h):Lr t To Ti (dC d) σ h k e:=by obtain⟨xs,vs,e1,nd,m,l,an⟩:=dd.row k0;refine hT _ (M6 e1 ⟨rfl,hI _ ?_⟩);unfold dC;simp only[e1,k0.key,cond_true,l];exact⟨trivial,q⟩
theorem Og{To Ti:TD}{σ:Sd}{e:G9}{t2:Bool}(k0:KeyC c t)(dd:Dic c t h a f)(z:α)(hT:∀k':DK,k' (.ref a) h->To σ h k' e)(hI:∀k':DK,k' (c z) h->Ti σ h k' e)(q:∀p,h p=none->k ((f z).getD (.ref p)) (put h p (.dct t2 [] []))):Lr t To Ti (Mr t2) σ h k e:=by
 obtain⟨xs,vs,e1,nd,m,l,an⟩:=dd.row k0;refine hT _ (M6 e1 ⟨rfl,hI _ λp hp=>?_⟩);have:a≠p:=by rintro rfl;rw[e1] at hp;cases hp
 simp only[FR this,e1,k0.key,cond_true,l];exact⟨trivial,q p hp⟩
end
structure UOk(U:List (List WP)):Prop where
 nd:U.Nodup
 len:U.length<=63
 ok:∀w∈U,WOk w
noncomputable def HI(U:List (List WP))(c:List WP->Nat):List (List WP):=U.filter λw=>decide (c w≠0)
theorem mem_onU{U:List (List WP)}{c:List WP->Nat}{w:List WP}:w∈HI U c↔w∈U/\c w≠0:=by unfold HI;rw[A0,decide_eq_true_iff]
noncomputable def tF(c:List WP->Nat):List WP->Option D:=λw=>if c w=0 then none else some (.int (c w))
noncomputable def gF(G:List (List WP)):List WP->Option D:=λw=>if w∈G then some (.bl true) else none
theorem Lb{G:List (List WP)}{w:List WP}:(gF G w).isSome=decide (w∈G):=by unfold gF;split<;>simp[*]
theorem gF_iff{G:List (List WP)}{w:List WP}:(gF G w).isSome=true↔w∈G:=by rw[Lb,decide_eq_true_iff]
theorem QA{c:List WP->Nat}{w:List WP}:(tF c w).isSome=decide (c w≠0):=by unfold tF;split<;>simp[*]
theorem tF_iff{c:List WP->Nat}{w:List WP}:(tF c w).isSome=true↔c w≠0:=by rw[QA,decide_eq_true_iff]
structure PlAt(h:Hd)(p tm tp:Addr)(c:List WP->Nat)(G U:List (List WP)):Prop where
 self:h p=some (.ins "Pool" [("times",.ref tm),("tops",.ref tp)])
 dT:Dic wD true h tm (tF c)
 dG:Dic wD true h tp (gF G)
 ne:tm≠tp
 top:IsTop (HI U c) G
 sup:∀w,c w≠0->w∈U
section
variable{h h':Hd}{p tm tp:Addr}{c:List WP->Nat}{G U:List (List WP)}
theorem PlAt.cg(x:PlAt h p tm tp c G U)(e1:h' p=h p)(e2:h' tm=h tm)(e3:h' tp=h tp):PlAt h' p tm tp c G U:=
 ⟨e1.trans x.self,x.dT.cg e2,x.dG.cg e3,x.ne,x.top,x.sup⟩
theorem PlAt.inU(x:PlAt h p tm tp c G U):∀g∈G,g∈U:=λg hg=>(mem_onU.mp ((x.top.mem g).mp hg).1).1
end
structure Told(G G' cs gs:List (List WP)):Prop where
 s1:GD cs
 s2:GD gs
 n1:cs.Nodup
 n2:gs.Nodup
 m1:∀v,v∈cs↔v∈G'/\v ∉ G
 m2:∀v,v∈gs↔v∈G/\v ∉ G'
noncomputable def GQ(c:List WP->Nat)(ws:List (List WP)):List WP->Nat:=λw=>if w∈ws then c w+1 else c w
noncomputable def Hk(c:List WP->Nat)(ws:List (List WP)):List WP->Nat:=λw=>if w∈ws then c w - 1 else c w
noncomputable def Lp(c:List WP->Nat)(ws:List (List WP)):List WP->Nat:=λw=>if w∈ws/\c w=1 then 0 else c w
noncomputable def X4:FS:=λds h k _=>match ds with
 | [.ref x]=>h x=some (.ins "Pool" [])/\∀a b h',h a=none->h b=none->a≠b->Dic wD true h' a (tF λ_=>0)->Dic wD true h' b (gF [])->h' x=some (.ins "Pool" [("times",.ref a),("tops",.ref b)])->Off [a,b,x] h h'->k .non h'
 | _=>False
noncomputable def Rz:FS:=λds h k _=>∃(p tm tp:Addr)(G cs gs:List (List WP)),ds=[.ref p,.lst (cs.map wD),.lst (gs.map wD)]/\h p=some (.ins "Pool" [("times",.ref tm),("tops",.ref tp)])/\Dic wD true h tp (gF G)/\(∀w∈G,WOk w)/\(∀w∈cs,WOk w)/\gs.Nodup/\(∀g∈gs,g∈G)/\G.length<=63/\cs.length<=63/\
 ∀cs' gs' h',cs'.Perm cs->gs'.Perm gs->GD cs'->GD gs'->Off [tp] h h'->Dic wD true h' tp (λw=>if w∈cs then some (.bl true) else if w∈gs then none else gF G w)->k (.tup [.lst (cs'.map wD),.lst (gs'.map wD)]) h'
noncomputable def YJ:FS:=λds h k _=>∃(p tm tp l:Addr)(T:List WP->Option D)(G L U:List (List WP)),ds=[.ref p,.ref l]/\h p=some (.ins "Pool" [("times",.ref tm),("tops",.ref tp)])/\Dic wD true h tm T/\Dic wD true h tp (gF G)/\Dic wD true h l (gF L)/\(∀w∈U,WOk w)/\(∀w,(T w).isSome=true->w∈U)/\(∀w∈G,w∈U)/\(∀w∈L,w∈U)/\
 ∀R qs,(∀v,v∈R↔(T v).isSome=true/\v ∉ L/\(∃g∈G,g∈L/\Gg g v=true/\g≠v)/\∀s∈G,s ∉ L->Gg s v=true->s=v)->IsTop R qs->k (.lst (qs.map wD)) h
noncomputable def ZE:FS:=λds h k _=>∃(p tm tp:Addr)(c:List WP->Nat)(G U ws:List (List WP)),ds=[.ref p,.lst (ws.map wD)]/\PlAt h p tm tp c G U/\UOk U/\(∀w∈ws,c w≠0)/\
 ∀qs,IsTop (HI U (Lp c ws)) qs->GD qs->k (.lst (qs.map wD)) h
noncomputable def YH:FS:=λds h k _=>∃(p tm tp:Addr)(c:List WP->Nat)(G U ws:List (List WP)),ds=[.ref p,.lst (ws.map wD)]/\PlAt h p tm tp c G U/\UOk U/\ws.Nodup/\(∀w∈ws,w∈U)/\
 ∀cs gs G' h',Off [tm,tp] h h'->PlAt h' p tm tp (GQ c ws) G' U->Told G G' cs gs->k (.tup [.lst (cs.map wD),.lst (gs.map wD)]) h'
noncomputable def ZB:FS:=λds h k _=>∃(p tm tp:Addr)(c:List WP->Nat)(G U ws:List (List WP)),ds=[.ref p,.lst (ws.map wD)]/\PlAt h p tm tp c G U/\UOk U/\ws.Nodup/\(∀w∈ws,c w≠0)/\
 ∀cs gs G' h',Off [tm,tp] h h'->PlAt h' p tm tp (Hk c ws) G' U->Told G G' cs gs->k (.tup [.lst (cs.map wD),.lst (gs.map wD)]) h'
section
variable{α:Type}{c:α->D}{t:Bool}{h:Hd}{a p:Addr}{f:α->Option D}
theorem Dic.ne_ins{C:Str}{fs:List (Str×D)}(d:Dic c t h a f)(e:h p=some (.ins C fs)):p≠a:=by rintro rfl;obtain⟨_,_,z,_⟩:=d.ex;rw[e] at z;cases z
theorem Dic.ne_none(d:Dic c t h a f)(e:h p=none):a≠p:=by rintro rfl;obtain⟨_,_,z,_⟩:=d.ex;rw[e] at z;cases z
theorem Dic.eq(d:Dic c t h a f){g:α->Option D}(e:∀x,f x=g x):Dic c t h a g:=by have:f=g:=funext e;exact this ▸ d
theorem Dic.of(e:h a=some (.dct t [] [])):Dic c t h a (λ_=>none):=⟨[],[],e,rfl,.nil,λ_=>rfl⟩
theorem Off.at1{h h':Hd}{a b:Addr}(o:Off [a] h h')(n:b≠a):h' b=h b:=o b (by simpa using n)
end
section
variable{T:IC}{g gt:GT}{u:GC}{E:DEnds}{σ:Sd}{h hd:Hd}{Te:TD}{U:G1}{d:D}{i:Nat}{js:Jn}{C f:Str}{a:Addr}{fs:List (Str×D)}{k:List D->(Hd->Prop)->Hd->Prop}{e:G9}
theorem KY(q:T σ h (λds C h1=>HK g U Te (λ_ _=>False) C (λxs h2=>gt (.lst xs) σ h2 (u E)) ds (HA js σ) [] h1) (E.xc σ)):GA (Go (FY (Hq T js g U Te)) gt) u E σ h:=q
theorem MH(hi:IB σ i=some d)(q:Ht (λds C h1=>HK g U Te (λ_ _=>False) C (λxs h2=>gt (.lst xs) σ h2 (u E)) ds (HA js σ) [] h1) d h):GA (Go (FY (Hq (JU (FN i)) js g U Te)) gt) u E σ h:=KY (IF hi q)
theorem M8(h:IB σ i=some (.ref a))(ho:hd a=some (.ins C fs))(hf:fs.lookup f=some d)(q:Ht k d hd):JU (Hl C f (FN i)) σ hd k e:=Ha h ho hf q
end
section
variable{t u s:GC}{E:DEnds}{σ:Sd}{h:Hd}{U:G1}
theorem MZ(hU:∀K:Bool->Hd->Prop,K false h->U σ h K (E.xc σ))(q:u E σ h):GA (G4 U t GY) u E σ h:=hU _ q
theorem Nz(hU:∀K:Bool->Hd->Prop,K true h->U σ h K (E.xc σ))(q:t {E with nx:=u E} σ h):GA (G4 U t s) u E σ h:=hU _ q
end
theorem Xl{as bs:List (List WP)}{w:List WP}(h:∀x,x∈as↔x∈bs):FW as w=FW bs w:=by rw[A8,ML,ML];exact⟨λ⟨o,m,r⟩=>⟨o,(h o).mp m,r⟩,λ⟨o,m,r⟩=>⟨o,(h o).mpr m,r⟩⟩
theorem IS{b:Bool}{N:List D->Prop}{x y:List D}(h:N (bif b then x else y)):bif b then N x else N y:=by cases b<;>exact h
theorem RP{y:D}:∀(ds ks vs:List D),ks.length=vs.length->(Hn (λd=>d) (λ_=>y) ds (ks,vs)).1.length=(Hn (λd=>d) (λ_=>y) ds (ks,vs)).2.length/\∀z,G7 (Hn (λd=>d) (λ_=>y) ds (ks,vs)).1 (Hn (λd=>d) (λ_=>y) ds (ks,vs)).2 z=if z∈ds then some y else G7 ks vs z
 | [],ks,vs,l=>⟨l,λz=>by simp[Hn]⟩
 | d::ds,ks,vs,l=>by rw[Hn];obtain⟨h1,h2⟩:=RP (y:=y) ds (G2 ks d) (Hb ks vs d y) (NQ l);refine⟨h1,λz=>?_⟩;rw[h2,NX l];by_cases e:z∈ds<;>by_cases e2:z=d<;>simp[e,e2]
theorem Qp{h:Hd}{p:Addr}(zs:List (List WP)):Dic wD true (put h p (.dct true (Hn (λd=>d) (λ_=> .bl true) (zs.map wD) ([],[])).1 (Hn (λd=>d) (λ_=> .bl true) (zs.map wD) ([],[])).2)) p (gF zs):=by obtain⟨us,vs,e,nd,m⟩:=PL zs;obtain⟨l,lk⟩:=RP (y:= .bl true) (zs.map wD) [] [] rfl;rw[e] at l lk ⊢;refine⟨us,vs,put_same,by simpa using l,nd,λw=>?_⟩;rw[lk];unfold gF;simp only[key_wish.mem];rfl
section
variable{c:List WP->Nat}{G U ws L S Q R:List (List WP)}
theorem UOk.on(u:UOk U)(c:List WP->Nat):(∀v∈HI U c,WOk v)/\∀v∈HI U c,Gg v v=true:=
 ⟨λv hv=>u.ok v (mem_onU.mp hv).1,λv hv=>Z6 (u.ok v (mem_onU.mp hv).1)⟩
theorem MB{c:List WP->Nat}(u:UOk U)(t:IsTop (HI U c) Q):Q.length<=63:=At (He _ _ t.nd λx hx=>(mem_onU.mp ((t.mem x).mp hx).1).1) u.len
theorem QK{c':List WP->Nat}(u:UOk U)(tG:IsTop (HI U c) G)(sup:∀w,c w≠0->w∈U)(h1:∀v,c' v≠0↔c v≠0/\v ∉ L)(hS:∀v,v∈S↔v∈G/\v ∉ L)(nS:S.Nodup)
 (hR:∀v,v∈R↔c v≠0/\v ∉ L/\(∃g∈G,g∈L/\Gg g v=true/\g≠v)/\∀s∈G,s ∉ L->Gg s v=true->s=v) (tQ:IsTop R Q):IsTop (HI U c') (S++Q):=by
 obtain⟨ok,rf⟩:=u.on c;refine X9 (O:=HI U c) (L:=L) ok rf tG (λv=>?_) hS nS (λv=>?_) tQ
 . rw[mem_onU,mem_onU,h1];exact⟨λ⟨a,b,c⟩=>⟨⟨a,b⟩,c⟩,λ⟨⟨a,b⟩,c⟩=>⟨a,b,c⟩⟩
 . rw[hR,mem_onU];constructor
   . rintro⟨a,b,c,d⟩;exact⟨⟨sup v a,a⟩,b,c,λs hs=>d s ((hS s).mp hs).1 ((hS s).mp hs).2⟩
   . rintro⟨⟨_,a⟩,b,c,d⟩;exact⟨a,b,c,λs hs nl=>d s ((hS s).mpr ⟨hs,nl⟩)⟩
theorem ZI(tG:IsTop (HI U c) G)(sup:∀w,c w≠0->w∈U)(hR:∀v,v∈R->c v≠0/\v ∉ L/\(∃g∈G,g∈L/\Gg g v=true/\g≠v)/\∀s∈G,s ∉ L->Gg s v=true->s=v){v:List WP}(h:v∈R):v ∉ G:=λm=>by obtain⟨a,b,⟨g,hg,_,r,n⟩,_⟩:=hR v h;exact n (((tG.mem v).mp m).2 g (((tG.mem g).mp hg).1) r)
theorem Xr{C N D:List (List WP)}(u:UOk U)(tG:IsTop (HI U c) G)(hw:∀w∈ws,w∈U)(hN:∀v,v∈N↔v∈ws/\c v=0)(tQ:IsTop N Q)
 (hC:∀v,v∈C↔v∈Q/\∀g∈G,Gg g v=true->g=v) (nC:C.Nodup) (hD:∀v,v∈D↔v∈G/\∀c∈C,Gg c v=true->c=v) (nD:D.Nodup):IsTop (HI U (GQ c ws)) (D++C):=by
 obtain⟨ok,rf⟩:=u.on (GQ c ws);refine Xb (O:=HI U c) (N:=N) ok rf tG tQ (λv=>?_) (λv hv m=>(mem_onU.mp m).2 ((hN v).mp hv).2) hC nC hD nD;rw[mem_onU,mem_onU,hN];unfold GQ;by_cases m:v∈ws
 . rw[if_pos m];constructor
   . rintro⟨a,_⟩;by_cases z:c v=0
     . exact .inr ⟨m,z⟩
     . exact .inl ⟨a,z⟩
   . exact λ_=>⟨hw v m,by lia⟩
 . rw[if_neg m];constructor
   . exact λz=> .inl z
   . rintro(z | ⟨z,_⟩)
     . exact z
     . exact(m z).elim
end
theorem Pl{b:List WP->Bool}(ws:List (List WP)):(ws.map wD).filter (λd=>b (Iz d))=(ws.filter b).map wD:=by rw[List.filter_map];congr 1;exact List.filter_congr λw _=>by simp[Jv]
theorem IE{C m:Str}{S:FS}{T:G6}{σ:Sd}{h:Hd}{k:DK}{e:G9}{i:Nat}{a:Addr}{fs:List (Str×D)}(hi:IB σ i=some (.ref a))(ho:h a=some (.ins C fs))(hm:fs.lookup m=none)(q:T σ h (λds h2=>S (.ref a::ds) h2 k e) e):KO C m S (FN i) T σ h k e:=
 FI hi ⟨JA ho (by rw[hm];trivial),q⟩
theorem NZ{C C' f m:Str}{S:FS}{T:G6}{σ:Sd}{h:Hd}{k:DK}{e:G9}{i:Nat}{a b:Addr}{fs fs':List (Str×D)}(hi:IB σ i=some (.ref b))(hb:h b=some (.ins C' fs'))(hf:fs'.lookup f=some (.ref a))(ho:h a=some (.ins C fs))(hm:fs.lookup m=none)(q:T σ h (λds h2=>S (.ref a::ds) h2 k e) e):KO C m S (Hl C' f (FN i)) T σ h k e:=
 Ha hi hb hf ⟨JA ho (by rw[hm];trivial),q⟩
theorem VI{c:List WP->Nat}{w1:List (List WP)}{v:List WP}(n:v ∉ w1):(tF (GQ c w1) v).getD (.int 0)= .int (c v):=by
 unfold tF GQ;rw[if_neg n]
 split<;>simp[*]
theorem X8{c:List WP->Nat}{w1:List (List WP)}{v:List WP}(n:v ∉ w1)(w:List WP):(if w=v then some (.int ((c v:Int)+1)) else tF (GQ c w1) w)=tF (GQ c (w1++[v])) w:=by
 unfold tF GQ;by_cases e:w=v
 . subst e;simp
 . simp[e]
theorem Off.two{h h':Hd}{a b:Addr}(o:Off [a] h h'):Off [a,b] h h':=o.more λx hx=>by simp at hx;simp[hx]
theorem Off.two'{h h':Hd}{a b:Addr}(o:Off [b] h h'):Off [a,b] h h':=o.more λx hx=>by simp at hx;simp[hx]
theorem Q0{c:List WP->Nat}{ws U:List (List WP)}(sup:∀w,c w≠0->w∈U)(hw:∀w∈ws,w∈U):∀w,GQ c ws w≠0->w∈U:=λw h=>by
 unfold GQ at h
 split at h
 . exact hw w (by assumption)
 . exact sup w h
theorem Q6{c:List WP->Nat}{ws U:List (List WP)}(sup:∀w,c w≠0->w∈U):∀w,Hk c ws w≠0->w∈U:=λw h=>by
 unfold Hk at h
 split at h
 . exact sup w (by lia)
 . exact sup w h
noncomputable def dF(c:List WP->Nat)(w1:List (List WP)):List WP->Option D:=λw=>if w∈w1 then some (.int ((c w:Int) - 1)) else tF c w
theorem Ul{c:List WP->Nat}{w1:List (List WP)}{v:List WP}(n:v ∉ w1)(h:c v≠0):dF c w1 v=some (.int (c v)):=by unfold dF tF;rw[if_neg n,if_neg h]
theorem WH{c:List WP->Nat}{w1:List (List WP)}{v:List WP}(w:List WP):(if w=v then some (.int ((c v:Int) - 1)) else dF c w1 w)=dF c (w1++[v]) w:=by
 unfold dF;by_cases e:w=v
 . subst e;simp
 . simp[e]
theorem Ve{c:List WP->Nat}{ws L:List (List WP)}(hw:∀w∈ws,c w≠0)(mL:∀v,v∈L↔v∈ws/\c v=1)(w:List WP):(if w∈L then none else dF c ws w)=tF (Hk c ws) w:=by
 unfold dF tF Hk;by_cases m:w∈ws
 . have:=hw w m;by_cases z:c w=1
   . rw[if_pos ((mL w).mpr ⟨m,z⟩),if_pos m,z];rfl
   . rw[if_neg λy=>z ((mL w).mp y).2,if_pos m,if_pos m,if_neg (by lia)];congr 2;lia
 . rw[if_neg λy=>m ((mL w).mp y).1,if_neg m,if_neg m]
theorem Vf{c:List WP->Nat}{w1 U:List (List WP)}(sup:∀w,c w≠0->w∈U)(h1:∀w∈w1,w∈U)(w:List WP)(h:(dF c w1 w).isSome=true):w∈U:=by
 unfold dF at h
 split at h
 . exact h1 w (by assumption)
 . exact sup w (tF_iff.mp h)
section
variable{k:DK}{h:Hd}{a:Addr}{d:D}{α:Type}{c:α->D}{t:Bool}{f:α->Option D}
theorem UR(k0:KeyC c t)(e:Dic c t h a f)(z:α)(l:f z=some d)(q:k d h):IK (.ref a) (c z) h k:=by obtain⟨xs,vs,e,nd,m,l',an⟩:=e.row k0;simp only[IK,HX,e,k0.key,cond_true,l' z,l];exact q
theorem Wo{N:Hd->Prop}{y:D}[DecidableEq α](k0:KeyC c t)(e:Dic c t h a f)(z:α){L:List α}(hL:∀x,(f x).isSome=true->x∈L)(hl:L.length<An)(q:∀h',Off [a] h h'->Dic c t h' a (λw=>if w=z then some y else f w)->N h'):KJ (.ref a) (c z) y h N:=by have:=Lv k0 e z hL hl q;obtain⟨xs,vs,e,nd,m,l',an⟩:=e.row k0;simp only[Hw,e] at this;exact this
end
theorem TO{α:Type}{c:α->D}{t:Bool}{h hh:Hd}{a:Addr}{f:α->Option D}{kk:List D->(Hd->Prop)->Hd->Prop}(k0:KeyC c t)(u:UnpTo hh h)(e:Dic c t h a f)(q:∀(xs:List α)h2(C:Hd->Prop),UnpTo h2 h->Off [a] hh h2->xs.Nodup->(∀x,x∈xs↔(f x).isSome=true)->(∀h',h' a=h2 a->C h')->kk (xs.map c) C h2):Ht kk (.ref a) hh:=by
 obtain⟨xs,vs,e,nd,m,l',an⟩:=e.row k0;rcases u.has e with z | ⟨ep,z⟩
 . exact Kj z λep=>q xs _ _ (u.put e) ((Off.refl _ _).put (.head _)) nd m λh' w=>w.trans put_same
 . exact NE z (q xs _ _ u (.refl _ _) nd m λh' w=>w.trans z)
inductive Rl where
 | self | pool | bh | bw | tm | tp | hold (x:Str) | held (w:List WP)
noncomputable abbrev G_:=Addr->Option Rl
noncomputable def G8{α β:Type}[DecidableEq α][DecidableEq β](f:α->β->Bool)(a:α)(b:β)(x:Bool):α->β->Bool:=λa' b'=>if a'=a/\b'=b then x else f a' b'
noncomputable def HC{β:Type}(p:β->Bool):β->Option D:=λy=>if p y=true then some (.bl true) else none
structure Nst{α β:Type}(ca:α->D)(ta:Bool)(cb:β->D)(tb:Bool)(rt:Rl)(rl:α->Rl)(h:Hd)(lab:G_)(a:Addr)(hb:α->β->Bool):Prop where
 lr:lab a=some rt
 ex:∃B:α->Option D,Dic ca ta h a B/\(∀x,B x=none->∀y,hb x y=false)/\∀x v,B x=some v->(∃y,hb x y=true)/\∃d,v= .ref d/\lab d=some (rl x)/\Dic cb tb h d (HC (hb x))
noncomputable def Ga(lab:G_)(p:Addr)(r:Rl):G_:=λc=>if c=p then some r else lab c
section
variable{α β:Type}[DecidableEq α][DecidableEq β]{ca:α->D}{ta tb:Bool}{cb:β->D}{rt:Rl}{rl:α->Rl}{h h':Hd}{lab lab':G_}{a:Addr}{hb:α->β->Bool}
theorem Nst.keep(n:Nst ca ta cb tb rt rl h lab a hb)(hl:∀c r,lab c=some r->lab' c=some r)(hk:∀c,(lab c=some rt\/∃x,lab c=some (rl x))->h' c=h c):Nst ca ta cb tb rt rl h' lab' a hb:=
 let⟨B,d,n0,n1⟩:=n.ex
 ⟨hl _ _ n.lr,B,d.cg (hk a (.inl n.lr)),n0,λx v e=>let⟨y,d,e1,e2,e3⟩:=n1 x v e;⟨y,d,e1,hl _ _ e2,e3.cg (hk d (.inr ⟨x,e2⟩))⟩⟩
theorem Wx{p:β->Bool}{y:β}(z:β):(if z=y then some (.bl true) else HC p z)=HC (λb=>if b=y then true else p b) z:=by unfold HC;by_cases e:z=y<;>simp[e]
theorem NC{p:β->Bool}{y:β}(z:β):(if z=y then none else HC p z)=HC (λb=>if b=y then false else p b) z:=by unfold HC;by_cases e:z=y<;>simp[e]
theorem IZ{p:β->Bool}{y:β}:(HC p y).isSome=p y:=by unfold HC;cases p y<;>simp
theorem Y9{c:α->D}{t t2:Bool}{f:α->Option D}{To Ti:TD}{σ:Sd}{e:G9}{k:DK}(k0:KeyC c t)(dd:Dic c t h a f)(z:α)(hT:∀k':DK,k' (.ref a) h->To σ h k' e)(hI:∀k':DK,k' (c z) h->Ti σ h k' e){L:List α}(hL:∀x,(f x).isSome=true->x∈L)(hl:L.length<An)
 (q1:∀d p,f z=some d->h p=none->k d (put h p (.dct t2 [] []))) (q2:∀p h',f z=none->h p=none->Off [a,p] h h'->h' p=some (.dct t2 [] [])->Dic c t h' a (λw=>if w=z then some (.ref p) else f w)->k (.ref p) h'):Nd t To Ti (Mr t2) σ h k e:=by
 obtain⟨ks,vs,e1,ds,lk⟩:=dd.set k0 z (.ref a);obtain⟨ks',vs',e2,l⟩:=dd.few k0 hL;rw[e1] at e2;cases e2;refine hT _ (M6 e1 ⟨rfl,hI _ λp hp=>?_⟩);have ap:a≠p:=dd.ne_none hp;have e3:put h p (.dct t2 [] []) a=some (.dct t ks vs):=by rw[FR ap];exact e1
 simp only[e3,k0.key,cond_true];refine⟨trivial,BJ l hl,?_⟩;cases ef:f z with
 | some d=> rw[lk,ef];exact q1 d p ef hp
 | none=> rw[lk,ef];refine q2 p _ ef hp (((Off.refl _ _).put (by simp)).put (by simp)) (by rw[FR ap.symm,put_same]) ?_;obtain⟨ks2,vs2,e4,ds2,_⟩:=(dd.cg (h':=put h p (.dct t2 [] [])) (FR ap)).set k0 z (.ref p);rw[e3] at e4;cases e4;exact ds2
theorem Nst.add(kb:KeyC cb tb)(ka:KeyC ca ta)(n:Nst ca ta cb tb rt rl h lab a hb)(i1:∀x,rl x≠rt)(i2:∀x y,rl x=rl y->x=y)(cov:∀c,h c=none->lab c=none)(x:α){To Ti:TD}{σ:Sd}{e:G9}{k:DK}(hT:∀k':DK,k' (.ref a) h->To σ h k' e)(hI:∀k':DK,k' (ca x) h->Ti σ h k' e){L:List α}(hL:∀x y,hb x y=true->x∈L)(hl:L.length<An)
 (q:∀d p h1,h p=none->Off [a,p] h h1->(∃t ks vs,h1 p=some (.dct t ks vs))->Ga lab p (rl x) d=some (rl x)->Dic cb tb h1 d (HC (hb x))->(∀h2 y,Off [d] h1 h2->Dic cb tb h2 d (λz=>if z=y then some (.bl true) else HC (hb x) z)->Nst ca ta cb tb rt rl h2 (Ga lab p (rl x)) a (G8 hb x y true))->k (.ref d) h1):Nd ta To Ti (Mr tb) σ h k e:=by
 obtain⟨B,dB,n0,n1⟩:=n.ex;have ext:∀p,h p=none->∀c r,lab c=some r->Ga lab p (rl x) c=some r:=λp hp c r z=>by
  unfold Ga;by_cases y:c=p
  . rw[y,cov p hp] at z;cases z
  . rw[if_neg y];exact z
 have fin:∀p d h1 B1,h p=none->Dic ca ta h1 a B1->(∀z,z≠x->B1 z=B z)->B1 x=some (.ref d)->Ga lab p (rl x) d=some (rl x)->(∀c r,lab c=some r->c≠a->h1 c=h c)->∀h2 y,Off [d] h1 h2->Dic cb tb h2 d (λz=>if z=y then some (.bl true) else HC (hb x) z)->Nst ca ta cb tb rt rl h2 (Ga lab p (rl x)) a (G8 hb x y true):=by
  intro p d h1 B1 hp d1 b1 b2 ld hk h2 y o2 d2;have ad:a≠d:=by rintro rfl;rw[ext p hp _ _ n.lr] at ld;exact i1 x (Bg ld).symm
  refine⟨ext p hp _ _ n.lr,B1,d1.cg (o2.at1 ad),λz hz y'=>?_,λz v hz=>?_⟩
  . by_cases e:z=x
    . subst e;rw[b2] at hz;cases hz
    . rw[b1 z e] at hz;unfold G8;rw[if_neg λw=>e w.1];exact n0 z hz y'
  . by_cases e:z=x
    . subst e;rw[b2] at hz;cases hz;refine⟨⟨y,by simp[G8]⟩,d,rfl,ld,d2.eq λw=>?_⟩;rw[Wx];unfold HC G8;by_cases e:w=y<;>simp[e]
    . rw[b1 z e] at hz;obtain⟨⟨y',hy⟩,d',e1,e2,e3⟩:=n1 z v hz;have nd:d'≠d:=by
       rintro rfl;rw[ext p hp _ _ e2] at ld;exact e (i2 _ _ (Bg ld))
      have na:d'≠a:=by rintro rfl;rw[n.lr] at e2;exact i1 z (Bg e2).symm
      refine⟨⟨y',by unfold G8;rw[if_neg λw=>e w.1];exact hy⟩,d',e1,ext p hp _ _ e2,(e3.cg ((o2.at1 nd).trans (hk _ _ e2 na))).eq λw=>?_⟩;unfold HC G8;simp[e]
 refine Y9 ka dB x hT hI (L:=L) (λz hz=>?_) hl (λd p hd hp=>?_) λp h1 hn hp o1 h1p d1=>?_
 . obtain⟨v,hv⟩:=C7.mp hz;obtain⟨⟨y,hy⟩,_⟩:=n1 z v hv;exact hL z y hy
 . obtain⟨_,d',rfl,e2,e3⟩:=n1 x d hd;have nd:d'≠p:=e3.ne_none hp;have ap:a≠p:=dB.ne_none hp;have d1:Dic ca ta (put h p (.dct tb [] [])) a B:=dB.cg (FR ap);have ld:=ext p hp _ _ e2;refine q d' p _ hp ((Off.refl _ _).put (by simp)) ⟨_,_,_,put_same⟩ ld (e3.cg (FR nd)) (fin p d' _ B hp d1 (λ_ _=>rfl) hd ld λc r hc _=>FR ?_);rintro rfl;rw[cov _ hp] at hc;cases hc
 . have ld:Ga lab p (rl x) p=some (rl x):=by simp[Ga]
   refine q p p h1 hp o1 ⟨_,_,_,h1p⟩ ld ((Dic.of h1p).eq λy=>?_) (fin p p h1 _ hp d1 (λz hz=>if_neg hz) (if_pos rfl) ld λc r hc na=>?_)
   . unfold HC;rw[n0 x hn y];rfl
   . refine o1 c λm=>?_;simp only[Ag,AC,or_false] at m;rcases m with m | m
     . exact na m
     . rw[m,cov _ hp] at hc;cases hc
theorem Nst.at_(n:Nst ca ta cb tb rt rl h lab a hb)(i1:∀x,rl x≠rt){x:α}{y:β}(e:hb x y=true):∃B d,Dic ca ta h a B/\B x=some (.ref d)/\lab d=some (rl x)/\a≠d/\Dic cb tb h d (HC (hb x)):=by
 obtain⟨B,dB,n0,n1⟩:=n.ex;cases ex:B x with
 | none=>rw[n0 x ex y] at e;cases e
 | some v=> obtain⟨_,d,rfl,e2,e3⟩:=n1 x v ex;refine⟨B,d,dB,ex,e2,?_,e3⟩;rintro rfl;rw[n.lr] at e2;exact i1 x (Bg e2).symm
theorem Nst.out(n:Nst ca ta cb tb rt rl h lab a hb)(i1:∀x,rl x≠rt)(i2:∀x y,rl x=rl y->x=y){x:α}{y:β}{d:Addr}{B:α->Option D}{h1 h2:Hd}(dB:Dic ca ta h a B)(bx:B x=some (.ref d))(ld:lab d=some (rl x))(ad:a≠d)(o1:Off [d] h h1)(d1:Dic cb tb h1 d (λz=>if z=y then none else HC (hb x) z))
 (h2e:((∃z,G8 hb x y false x z=true)/\h2=h1)\/((∀z,G8 hb x y false x z=false)/\Off [a] h1 h2/\Dic ca ta h2 a (λz=>if z=x then none else B z))):Nst ca ta cb tb rt rl h2 lab a (G8 hb x y false):=by
 obtain⟨B',dB',n0,n1⟩:=n.ex;have eB:∀z,B' z=B z:=λz=>by obtain⟨xs,vs,e1,l1,nd1,q1⟩:=dB.ex;obtain⟨xs',vs',e2,l2,nd2,q2⟩:=dB'.ex;rw[e1] at e2;injection e2 with e2;injection e2 with _ e3 e4;rw[<-q1,<-q2,e3,e4]
 have off:∀c r,lab c=some r->c≠a->c≠d->h2 c=h c:=λc r hc na nd=>by
  rcases h2e with⟨_,e⟩ | ⟨_,o2,_⟩
  . rw[e];exact o1.at1 nd
  . rw[o2.at1 na];exact o1.at1 nd
 have rest:∀z v,z≠x->B' z=some v->(∃y',G8 hb x y false z y'=true)/\∃d',v= .ref d'/\lab d'=some (rl z)/\Dic cb tb h2 d' (HC (G8 hb x y false z)):=λz v e hz=>by
  obtain⟨⟨y',hy⟩,d',e1,e2,e3⟩:=n1 z v hz;have nd:d'≠d:=by rintro rfl;rw[ld] at e2;exact e (i2 _ _ (Bg e2)).symm
  have na:d'≠a:=by rintro rfl;rw[n.lr] at e2;exact i1 z (Bg e2).symm
  refine⟨⟨y',by unfold G8;rw[if_neg λw=>e w.1];exact hy⟩,d',e1,e2,(e3.cg (off _ _ e2 na nd)).eq λw=>?_⟩;unfold HC G8;simp[e]
 have none':∀z,z≠x->B' z=none->∀y',G8 hb x y false z y'=false:=λz e hz y'=>by unfold G8;rw[if_neg λw=>e w.1];exact n0 z hz y'
 rcases h2e with⟨ne,rfl⟩ | ⟨em,o2,d2⟩
 . refine⟨n.lr,B',(dB'.cg (o1.at1 ad)),λz hz y'=>?_,λz v hz=>?_⟩
   . by_cases e:z=x
     . subst e;rw[eB,bx] at hz;cases hz
     . exact none' z e hz y'
   . by_cases e:z=x
     . subst e;rw[eB,bx] at hz;cases hz;refine⟨ne,d,rfl,ld,d1.eq λw=>?_⟩;rw[NC];unfold HC G8;by_cases e:w=y<;>simp[e]
     . exact rest z v e hz
 . refine⟨n.lr,_,d2,λz hz y'=>?_,λz v hz=>?_⟩
   . by_cases e:z=x
     . subst e;exact em y'
     . rw[if_neg e,<-eB] at hz;exact none' z e hz y'
   . by_cases e:z=x
     . rw[if_pos e] at hz;cases hz
     . rw[if_neg e,<-eB] at hz;exact rest z v e hz
end
noncomputable def Gs(hs:List Str)(hb:Str->List WP->Bool)(v:List WP):Nat:=hs.countP λh=>hb h v
noncomputable def GX(hb:Str->List WP->Bool)(h:Str)(vs:List (List WP))(b:Bool):Str->List WP->Bool:=λh' v=>if h'=h then(if v∈vs then b else hb h v) else hb h' v
theorem RI{hb:Str->List WP->Bool}{h:Str}{b:Bool}:GX hb h [] b=hb:=by
 funext h' v;unfold GX;by_cases e:h'=h
 . rw[if_pos e,if_neg (by simp),e]
 . rw[if_neg e]
theorem Sg{hb:Str->List WP->Bool}{h:Str}{vs:List (List WP)}{v:List WP}{b:Bool}:G8 (GX hb h vs b) h v b=GX hb h (vs++[v]) b:=by funext h' u;unfold G8 GX;by_cases e:h'=h<;>by_cases z:u=v<;>simp[e,z]
theorem RS{hs:List Str}{f g:Str->Bool}{h:Str}(nd:hs.Nodup)(m:h∈hs)(hg:∀x,x≠h->g x=f x)(f0:f h=false)(g1:g h=true):hs.countP g=hs.countP f+1:=by
 induction hs with
 | nil=>cases m
 | cons x hs ih=>
  rw[AL] at nd;rw[List.countP_cons,List.countP_cons];rcases Ag.mp m with e | m
  . subst e;rw[f0,g1];have:hs.countP g=hs.countP f:=E3 λx hx=>by rw[hg x (λz=>nd.1 (z ▸ hx))]
    simp[this]
  . have nx:x≠h:=λz=>nd.1 (z ▸ m);rw[hg x nx,ih nd.2 m];lia
theorem WG{hs:List Str}{hb:Str->List WP->Bool}{h:Str}{vs:List (List WP)}(nd:hs.Nodup)(m:h∈hs)(f:∀v∈vs,hb h v=false)(v:List WP):Gs hs (GX hb h vs true) v=if v∈vs then Gs hs hb v+1 else Gs hs hb v:=by
 by_cases e:v∈vs
 . rw[if_pos e];exact RS nd m (λx nx=>by unfold GX;rw[if_neg nx]) (f v e) (by unfold GX;rw[if_pos rfl,if_pos e])
 . rw[if_neg e];refine E3 λx _=>?_;unfold GX;by_cases z:x=h
   . rw[if_pos z,if_neg e,z]
   . rw[if_neg z]
theorem Ym{hs:List Str}{hb:Str->List WP->Bool}{h:Str}{vs:List (List WP)}(nd:hs.Nodup)(m:h∈hs)(f:∀v∈vs,hb h v=true)(v:List WP):Gs hs (GX hb h vs false) v=if v∈vs then Gs hs hb v - 1 else Gs hs hb v:=by
 by_cases e:v∈vs
 . rw[if_pos e];have:=RS (f:=λx=>GX hb h vs false x v) (g:=λx=>hb x v) nd m (λx nx=>by unfold GX;rw[if_neg nx]) (by unfold GX;rw[if_pos rfl,if_pos e]) (f v e);unfold Gs;lia
 . rw[if_neg e];refine E3 λx _=>?_;unfold GX;by_cases z:x=h
   . rw[if_pos z,if_neg e,z]
   . rw[if_neg z]
theorem TL{t:Str}{d:Nat}(ht:t.cps.toList=[d])(c:Nat):(!decide ((⟨#[c]⟩:Str).cps.toList<t.cps.toList))=decide (d<=c):=by
 rw[ht];show(!decide (([c]:List Nat)<[d]))=_;by_cases h:d<=c
 . have:¬([c]:List Nat)<[d]:=by
    intro z;cases z with
    | rel z=>exact absurd z (by lia)
    | cons z=>cases z
   rw[decide_eq_true h,decide_eq_false this];rfl
 . have:([c]:List Nat)<[d]:= .rel (by lia);rw[decide_eq_false h,decide_eq_true this];rfl
theorem TT{t:Str}{d:Nat}(ht:t.cps.toList=[d])(c:Nat):(!decide (t.cps.toList<(⟨#[c]⟩:Str).cps.toList))=decide (c<=d):=by
 rw[ht];show(!decide (([d]:List Nat)<[c]))=_;by_cases h:c<=d
 . have:¬([d]:List Nat)<[c]:=by
    intro z;cases z with
    | rel z=>exact absurd z (by lia)
    | cons z=>cases z
   rw[decide_eq_true h,decide_eq_false this];rfl
 . have:([d]:List Nat)<[c]:= .rel (by lia);rw[decide_eq_false h,decide_eq_true this];rfl
structure HolderOk(x:Str):Prop where
 lo:1<=x.length
 hi:x.length<=15
 sg:∀c∈x.cps.toList,(97<=c/\c<=122)\/(48<=c/\c<=57)
structure ShA where
 a:Addr
 bh:Addr
 bw:Addr
 pa:Addr
 tm:Addr
 tp:Addr
structure ShB(h:Hd)(lab:G_)(s:ShA)(hb:Str->List WP->Bool):Prop where
 self:h s.a=some (.ins "Shelf" [("by_holder",.ref s.bh),("by_wish",.ref s.bw),("pool",.ref s.pa)])
 la:lab s.a=some .self
 lp:lab s.pa=some .pool
 lt:lab s.tm=some .tm
 lg:lab s.tp=some .tp
 nB:Nst D.str false wD true .bh .hold h lab s.bh hb
 nW:Nst wD true D.str false .bw .held h lab s.bw (λw x=>hb x w)
 cov:∀c,lab c≠none->∃o,h c=some o/\∀xs,o≠ .lst xs
noncomputable def J2:Option Rl->Bool
 | some .bh=>true
 | some .bw=>true
 | some (.hold _)=>true
 | some (.held _)=>true
 | _=>false
structure Ext(lab lab':G_)(h:Hd):Prop where
 old:∀c r,lab c=some r->lab' c=some r
 new:∀c,lab c=none->lab' c≠none->h c=none
theorem Ext.refl(lab:G_)(h:Hd):Ext lab lab h:=⟨λ_ _ z=>z,λc z y=>(y z).elim⟩
noncomputable def FrB(lab':G_)(h h':Hd):Prop:=∀c,J2 (lab' c)=false->h' c=h c
theorem Ext.trans{lab lab1 lab2:G_}{h h1:Hd}(x:Ext lab lab1 h)(y:Ext lab1 lab2 h1)(f:∀c,lab1 c=none->h1 c=h c):Ext lab lab2 h:=
 ⟨λc r z=>y.old c r (x.old c r z),λc z w=>by
  cases e:lab1 c with
  | some r=>exact x.new c z (by rw[e];exact λq=>by cases q)
  | none=>rw[<-f c e];exact y.new c e w⟩
theorem FrB.trans{lab1 lab2:G_}{h h1 h2:Hd}(x:FrB lab1 h h1)(y:FrB lab2 h1 h2)(e:∀c r,lab1 c=some r->lab2 c=some r):FrB lab2 h h2:=λc hc=>(y c hc).trans (x c (by
 cases z:lab1 c with
 | none=>rfl
 | some r=>rw[e c r z] at hc;exact hc))
theorem OA(x:Str):Rl.hold x≠ .bh:=λz=>by cases z
theorem Tu(x y:Str)(h:Rl.hold x= .hold y):x=y:=by cases h;rfl
theorem O9(x:List WP):Rl.held x≠ .bw:=λz=>by cases z
theorem Tt(x y:List WP)(h:Rl.held x= .held y):x=y:=by cases h;rfl
theorem ShB.free{h:Hd}{lab:G_}{s:ShA}{hb:Str->List WP->Bool}(x:ShB h lab s hb)(c:Addr)(e:h c=none):lab c=none:=AE λz=>by obtain⟨o,q,_⟩:=x.cov c z;rw[e] at q;cases q
theorem RJ{hb:Str->List WP->Bool}{x:Str}{w:List WP}{b:Bool}:(G8 (λw x=>hb x w) w x b)=λv y=>G8 hb x w b y v:=by funext v y;unfold G8;by_cases e1:v=w<;>by_cases e2:y=x<;>simp[e1,e2]
structure ShAt(h:Hd)(lab:G_)(s:ShA)(hb:Str->List WP->Bool)(hs:List Str)(U G:List (List WP)):Prop where
 b:ShB h lab s hb
 pl:PlAt h s.pa s.tm s.tp (Gs hs hb) G U
 uo:UOk U
 nd:hs.Nodup
 len:hs.length<=200
 sup:∀x w,hb x w=true->x∈hs/\w∈U
noncomputable def R0(r:D):FS:=λds h k _=>match ds with
 | [x]=>∃f,x= .str f/\HolderOk f/\k r h
 | _=>False
noncomputable def YK:FS:=λds h k _=>match ds with
 | [.ref x]=>h x=some (.ins "Shelf" [])/\∀s lab h',s.a=x->(∀hs U,hs.Nodup->hs.length<=200->UOk U->ShAt h' lab s (λ_ _=>false) hs U [])->(∀c,lab c≠none->c≠x->h c=none)->(∀c,lab c=none->h' c=h c)->k .non h'
 | _=>False
noncomputable def Xz:FS:=λds h k _=>∃(s:ShA)(lab:G_)(hb:Str->List WP->Bool)(x:Str)(w:List WP)(hs:List Str)(U:List (List WP)),ds=[.ref s.a,.str x,wD w]/\ShB h lab s hb/\(∀x w,hb x w=true->x∈hs/\w∈U)/\hs.length<=200/\U.length<=63/\
 ∀lab' h',ShB h' lab' s (G8 hb x w true)->Ext lab lab' h->FrB lab' h h'->k .non h'
noncomputable def YE:FS:=λds h k _=>∃(s:ShA)(lab:G_)(hb:Str->List WP->Bool)(x:Str)(w:List WP),ds=[.ref s.a,.str x,wD w]/\ShB h lab s hb/\hb x w=true/\
 ∀h',ShB h' lab s (G8 hb x w false)->FrB lab h h'->k .non h'
noncomputable def ZN:FS:=λds h k _=>∃(s:ShA)(lab:G_)(hb:Str->List WP->Bool)(x:Str)(w:List WP),ds=[.ref s.a,.str x,wD w]/\ShB h lab s hb/\k (.bl (hb x w)) h
noncomputable def X0:FS:=λds h k _=>∃(s:ShA)(lab:G_)(hb:Str->List WP->Bool)(hs:List Str)(U G:List (List WP)),ds=[.ref s.a]/\ShAt h lab s hb hs U G/\∀ks:List (List WP),ks.Nodup->(∀w,w∈ks↔∃x,hb x w=true)->k (.int ks.length) h
noncomputable def ZC:FS:=λds h k _=>∃(s:ShA)(lab:G_)(hb:Str->List WP->Bool)(hs:List Str)(U G:List (List WP))(x:Str),ds=[.ref s.a,.str x]/\ShAt h lab s hb hs U G/\HolderOk x/\∀rs:List (List WP),rs.Nodup->GD rs->(∀w,w∈rs↔hb x w=true)->k (.lst (rs.map wD)) h
noncomputable def zdY:FS:=λds h k _=>∃(s:ShA)(lab:G_)(hb:Str->List WP->Bool)(hs:List Str)(U G:List (List WP))(w:List WP),ds=[.ref s.a,wD w]/\ShAt h lab s hb hs U G/\WOk w/\hs.length<=63/\∀ts:List Str,ts.Nodup->sortedS ts=true->(∀x,x∈ts↔hb x w=true)->k (.lst (ts.map .str)) h
noncomputable def YC:FS:=λds h k _=>∃(s:ShA)(lab:G_)(hb:Str->List WP->Bool)(hs:List Str)(U G:List (List WP)),ds=[.ref s.a,.non]/\ShAt h lab s hb hs U G/\∀qs,IsTop (HI U (Gs hs hb)) qs->GD qs->k (.lst (qs.map wD)) h
noncomputable def PF(b:Bool):FS:=λds h k _=>∃(s:ShA)(lab:G_)(hb:Str->List WP->Bool)(hs:List Str)(U G:List (List WP))(x:Str)(ws:List (List WP)),ds=[.ref s.a,.str x,.lst (ws.map wD)]/\ShAt h lab s hb hs U G/\HolderOk x/\x∈hs/\ws.Nodup/\(∀w∈ws,w∈U/\hb x w=!b)/\
 ∀cs gs G' lab' h',ShAt h' lab' s (GX hb x ws b) hs U G'->Ext lab lab' h->(∀c,lab' c=none->h' c=h c)->Told G G' cs gs->k (.tup [.lst (cs.map wD),.lst (gs.map wD)]) h'
section
variable{U:G1}{To Ti:TD}{u:GC}{E:DEnds}{σ:Sd}{h:Hd}
theorem P0(q:To σ h (λx h1=>Ti σ h1 (λy h2=>HX x h2 λa t ks vs=>bif G3 t y && ks.any (λz=>Gf z y) then u E σ (put h2 a (.dct t (Ig ks y) (Iv ks vs y))) else False) (E.xc σ)) (E.xc σ)):GA (IQ To Ti) u E σ h:=q
end
theorem Ni{t:Str}{d c:Nat}(ht:t.cps.toList=[d]):(!I0 ⟨#[c]⟩ t)=decide (d<=c):=TL ht c
theorem Pa{t:Str}{d c:Nat}(ht:t.cps.toList=[d]):(!I0 t ⟨#[c]⟩)=decide (c<=d):=TT ht c
theorem Uh:("0":Str).cps.toList=[48]:=by decide+kernel
theorem Ui:("9":Str).cps.toList=[57]:=by decide+kernel
section
variable{h h':Hd}{lab lab':G_}{s:ShA}{hb hb':Str->List WP->Bool}
theorem ShB.mk'(x:ShB h lab s hb)(e:∀c r,lab c=some r->lab' c=some r)(f:FrB lab' h h')(c2:∀c,J2 (lab' c)=true->∃o,h' c=some o/\∀xs,o≠ .lst xs)(nw:∀c,lab c=none->lab' c≠none->J2 (lab' c)=true)(nB:Nst D.str false wD true .bh .hold h' lab' s.bh hb')(nW:Nst wD true D.str false .bw .held h' lab' s.bw (λw x=>hb' x w)):ShB h' lab' s hb':=by
 have fr:∀{c r},lab c=some r->J2 (some r)=false->h' c=h c:=λ{c r}z y=>f c (by rw[e c r z];exact y);refine⟨(fr x.la rfl).trans x.self,e _ _ x.la,e _ _ x.lp,e _ _ x.lt,e _ _ x.lg,nB,nW,λc hc=>?_⟩;cases ef:J2 (lab' c) with
 | true=>exact c2 c ef
 | false=> rw[f c ef];refine x.cov c λz=>?_;rw[nw c z hc] at ef;cases ef
theorem Dic.dct{α:Type}{c:α->D}{t:Bool}{a:Addr}{f:α->Option D}(d:Dic c t h a f):∃o,h a=some o/\∀xs,o≠ .lst xs:=by obtain⟨_,_,z,_⟩:=d.ex;exact⟨_,z,λxs q=>by cases q⟩
theorem ShB.pool(x:ShB h lab s hb){c:List WP->Nat}{G U:List (List WP)}(o:Off [s.tm,s.tp] h h')(p:PlAt h' s.pa s.tm s.tp c G U):ShB h' lab s hb:=by
 have fr:∀{c r},lab c=some r->r≠ .tm->r≠ .tp->h' c=h c:=λ{c r}z n1 n2=>o c λm=>by
  simp only[Ag,AC,or_false] at m;rcases m with m | m
  . rw[m,x.lt] at z;exact n1 (Bg z).symm
  . rw[m,x.lg] at z;exact n2 (Bg z).symm
 refine⟨(fr x.la (λz=>by cases z) λz=>by cases z).trans x.self,x.la,x.lp,x.lt,x.lg,x.nB.keep (λ_ _ z=>z) λc z=>?_,x.nW.keep (λ_ _ z=>z) λc z=>?_,λc hc=>?_⟩
 . rcases z with z | ⟨_,z⟩<;>exact fr z (λz=>by cases z) λz=>by cases z
 . rcases z with z | ⟨_,z⟩<;>exact fr z (λz=>by cases z) λz=>by cases z
 . by_cases z1:c=s.tm
   . rw[z1];exact p.dT.dct
   . by_cases z2:c=s.tp
     . rw[z2];exact p.dG.dct
     . rw[o c (by simp[z1,z2])];exact x.cov c hc
end
theorem cnt_pos{hs:List Str}{hb:Str->List WP->Bool}{v:List WP}:Gs hs hb v≠0↔∃x∈hs,hb x v=true:=by unfold Gs;rw[<-Nat.pos_iff_ne_zero,List.countP_pos_iff]
theorem Zg(c:List WP->Nat):Lp c []=c:=by funext w;simp[Lp]
theorem NN{hb:Str->List WP->Bool}{hs:List Str}{U ws:List (List WP)}{x:Str}{b:Bool}(sup:∀x w,hb x w=true->x∈hs/\w∈U)(hx:x∈hs)(hw:∀w∈ws,w∈U):∀y w,GX hb x ws b y w=true->y∈hs/\w∈U:=λy w z=>by
 unfold GX at z
 split at z
 . split at z
   . exact⟨by simp_all,hw w (by assumption)⟩
   . exact⟨by simp_all,(sup x w z).2⟩
 . exact sup y w z
theorem Ry{h:Hd}{a:Addr}{xs:List Str}{vs:List D}{k:List D->Hd->Prop}(e:h a=some (.dct false (xs.map D.str) vs))(l:xs.length<64)(q:∀ms,ms.Perm xs->sortedS ms=true->k (ms.map D.str) h):KP [.ref a] h k:=by simp only[KP,Nr e,LF,JI];exact⟨l,q⟩
structure Wl(h:Hd)(b g:Addr)(n:Int):Prop where
 ex:∃(gs ls:List Int)(sd c:Int),h b=some (.lst [.ref g,.lst (ls.map .int),.int sd,.int c])/\h g=some (.lst (gs.map .int))/\(∀x∈ls,0<=x/\x<wM)/\0<=sd/\sd<wM/\0<=c/\c<=n
 ne:b≠g
section
variable{h h':Hd}{b g p:Addr}{n m:Int}{o:OD}
theorem Wl.mono(w:Wl h b g n)(l:n<=m):Wl h b g m:=by obtain⟨⟨gs,ls,sd,c,h1,h2,h3,h4,h5,h6,h7⟩,ne⟩:=w;exact⟨⟨gs,ls,sd,c,h1,h2,h3,h4,h5,h6,Int.le_trans h7 l⟩,ne⟩
theorem Wl.cg(w:Wl h b g n)(e1:h' b=h b)(e2:h' g=h g):Wl h' b g n:=by obtain⟨⟨gs,ls,sd,c,h1,h2,r⟩,ne⟩:=w;exact⟨⟨gs,ls,sd,c,e1.trans h1,e2.trans h2,r⟩,ne⟩
theorem Wl.free(w:Wl h b g n)(e:h p=none):b≠p/\g≠p:=by obtain⟨gs,ls,sd,c,h1,h2,r⟩:=w.ex;exact⟨(by rintro rfl;rw[e] at h1;cases h1),(by rintro rfl;rw[e] at h2;cases h2)⟩
theorem Wl.put(w:Wl h b g n)(e:h p=none):Wl (put h p o) b g n:=w.cg (FR (w.free e).1) (FR (w.free e).2)
theorem Wl.nl(w:Wl h b g n)(e:h p=some o)(ho:∀xs,o≠ .lst xs):p≠b/\p≠g:=by obtain⟨gs,ls,sd,c,h1,h2,r⟩:=w.ex;exact⟨(by rintro rfl;rw[e] at h1;cases h1;exact ho _ rfl),(by rintro rfl;rw[e] at h2;cases h2;exact ho _ rfl)⟩
theorem Off.at2{h h':Hd}{a b c:Addr}(o:Off [a,b] h h')(n:c≠a)(m:c≠b):h' c=h c:=o c (by simp[n,m])
end
theorem Yq(gs:List Int):Gm 50 (.lst (gs.map .int))=true:=by rw[Gm,JW,Bp,A3];intro x _;simp[Gm]
theorem Re{h:Hd}{x:D}{k:DK}(gs:List Int)(e:GG h x= .lst (gs.map .int))(q:k (.bl (!gs.isEmpty)) h):Ip true x (.lst []) h k:=by
 show(bif Gm 50 (GG h x) && Gm 50 (.lst []) then k (.bl (!Gr (GG h x) (.lst []))) h else False)
 rw[e,Yq];cases gs with
 | nil=>exact q
 | cons i r=>exact q
noncomputable def LB:FS:=λds h k _=>∃(b g:Addr)(n many:Int),ds=[.ref b,.int many]/\Wl h b g n/\n<=2^40/\0<many/\many<2^500/\∀(r:Int)h',0<=r->r<many->Off [b,g] h h'->Wl h' b g (n+1)->k (.int r) h'
noncomputable def X6:FS:=λds h k _=>∃ns:List Int,ds=[.lst (ns.map .int)]/\ns.length<=63/\∀b g h',h b=none->h g=none->Off [b,g] h h'->Wl h' b g 0->k (.ref b) h'
noncomputable def drawn(c:Int)(Pv:D->Prop)(b g:Addr)(n:Int)(h:Hd)(k:DK):Prop:=∀d h',Pv d->Off [b,g] h h'->Wl h' b g (n+c)->k d h'
noncomputable def X1:FS:=λds h k _=>∃(b g:Addr)(n most:Int),ds=[.ref b,.int most]/\Wl h b g n/\n<=10^8/\1<=most/\most<=8/\drawn 9 (λd=>∃x,d= .str x/\FieldOk x) b g n h k
structure FsOk(fs:List Str):Prop where
 asc:fs.Pairwise Hz
 ok:∀f∈fs,FieldOk f
 lo:1<=fs.length
 hi:fs.length<=10
noncomputable def ZM:FS:=λds h k _=>∃(b g:Addr)(n many:Int),ds=[.ref b,.int many]/\Wl h b g n/\n<=10^7/\1<=many/\many<=6/\drawn 200 (λd=>∃fs,d= .lst (fs.map .str)/\FsOk fs) b g n h k
noncomputable def NK:FS:=λds h k _=>∃(b g:Addr)(n:Int),ds=[.ref b]/\Wl h b g n/\n<=10^9/\drawn 5 (λd=>∃i:Int,d= .int i/\ -(10^15)<i/\i<10^15) b g n h k
noncomputable def Jm(d:D):Prop:=∃lo sz:Int,d= .tup [.int lo,.int sz]/\1<=sz/\sz<=10^10
noncomputable def Xx:FS:=λds h k _=>∃(b g:Addr)(n:Int),ds=[.ref b]/\Wl h b g n/\n<=10^8/\drawn 10 Jm b g n h k
noncomputable def YL:FS:=λds h k _=>∃(b g:Addr)(n wide:Int)(gr:D),ds=[.ref b,gr,.int wide]/\Wl h b g n/\n<=10^8/\Jm gr/\1<=wide/\wide<=100/\drawn 3 (λd=>∃lo hi,d= .tup [oD lo,oD hi]/\Kv lo hi=true) b g n h k
noncomputable def YQ:FS:=λds h k _=>∃(b g:Addr)(n wide:Int)(gr:D)(fs:List Str),ds=[.ref b,.lst (fs.map .str),gr,.int wide]/\Wl h b g n/\n<=10^7/\FsOk fs/\Jm gr/\1<=wide/\wide<=100/\drawn 40 (λd=>∃w,d=wD w/\WOk w) b g n h k
noncomputable def WsD(m:Nat)(d:D):Prop:=∃ws:List (List WP),d= .lst (ws.map wD)/\(∀w∈ws,WOk w)/\ws.length<=m
noncomputable def ZD:FS:=λds h k _=>∃(b g:Addr)(n wide:Int)(gr:D)(fs:List Str)(many:Nat),ds=[.ref b,.lst (fs.map .str),gr,.int wide,.int many]/\Wl h b g n/\n<=10^6/\FsOk fs/\Jm gr/\1<=wide/\wide<=100/\many<=63/\drawn 5000 (WsD many) b g n h k
noncomputable def YG:FS:=λds h k _=>∃(b g:Addr)(n wide:Int)(gr:D)(fs:List Str)(many:Nat),ds=[.ref b,.lst (fs.map .str),gr,.int wide,.int many]/\Wl h b g n/\n<=10^6/\FsOk fs/\Jm gr/\1<=wide/\wide<=100/\1<=many/\many<=63/\drawn 5000 (λd=>∃U,d= .lst (U.map wD)/\UOk U) b g n h k
noncomputable def zdX:FS:=λds h k _=>∃(b g:Addr)(n many:Int),ds=[.ref b,.int many]/\Wl h b g n/\n<=10^7/\1<=many/\many<=6/\drawn 200 (λd=>∃hs:List Str,d= .lst (hs.map .str)/\(∀x∈hs,HolderOk x)/\1<=hs.length/\hs.length<=7) b g n h k
noncomputable def ZO:FS:=λds h k _=>∃(b g:Addr)(n:Int)(ws:List (List WP)),ds=[.ref b,.lst (ws.map wD)]/\Wl h b g n/\n<=10^7/\ws.Nodup/\ws.length<=63/\drawn 100 (λd=>∃ps:List (List WP),d= .lst (ps.map wD)/\ps.Nodup/\∀w∈ps,w∈ws) b g n h k
section
variable{h:Hd}{a:Addr}{xs:List D}{i:Nat}{d z:D}{k:DK}{N:Hd->Prop}
theorem GI(e:h a=some (.lst xs))(l:xs[i]?=some d)(q:k d h):Gn (.ref a) (.int (i:Nat)) h k:=by simp only[Gn,e,J0,Jz,seqD,seqL,Ma,l];exact q
theorem Nh(e:h a=some (.lst xs))(l:i<xs.length)(q:N (put h a (.lst (xs.set i z)))):Hw (.ref a) (.int (i:Nat)) z h N:=by simp only[Hw,e,Kq,Kc];rw[show Nat.blt i xs.length=true from CF.mpr l];exact q
end
theorem Hj{h:Hd}{xs:List D}{i:Nat}{d:D}{k:DK}(l:xs[i]?=some d)(q:k d h):Gn (.lst xs) (.int (i:Nat)) h k:=by simp only[Gn,J0,Jz,seqD,seqL,Ma,l];exact q
theorem OW{h:Hd}{a:Addr}{xs:List D}{i:Nat}{d:D}{k:DK}(e:h a=some (.lst xs))(l:xs[i]?=some d)(hi:i<1000000)(q:k d (put h a (.lst (xs.eraseIdx i)))):Ks (.ref a) [.int (i:Nat)] h k:=by
 refine JT e ?_;show(match xs[i]? with | some d=>(bif Nat.blt i 1000000 then k d (put h a (.lst (xs.eraseIdx i))) else False) | none=>False)
 rw[l];dsimp only;rw[show Nat.blt i 1000000=true from CF.mpr hi];exact q
theorem O7{m:Int}(h:m<=10^6):m<2^500:=Int.lt_of_le_of_lt h (by decide)
theorem VB{z:Int}(h:z.natAbs<2^100):z.natAbs<2^1000:=CD h (by decide)
theorem Ij{z:Int}(h1: -(10^20)<z)(h2:z<10^20):z.natAbs<2^1000:=VB (by lia)
theorem G5{h:Hd}{b g:Addr}{n many:Int}{k:DK}{e:G9}(W:Wl h b g n)(hn:n<=2^40)(h0:0<many)(h1:many<=10^6)(q:∀(r:Int)h',0<=r->r<many->Off [b,g] h h'->Wl h' b g (n+1)->k (.int r) h'):LB [.ref b,.int many] h k e:=
 ⟨b,g,n,many,rfl,W,hn,h0,O7 h1,q⟩
theorem GZ{h:Hd}{a b:Int}{neg:Bool}{k:DK}(q:k (.bl (bif neg then !(a==b) else(a==b))) h):Ip neg (.int a) (.int b) h k:=q
theorem Jf{h:Hd}{xs:List D}{i:Nat}{d:D}{k:DK}(l:xs[i]?=some d)(q:k d h):Gn (.tup xs) (.int (i:Nat)) h k:=by simp only[Gn,J0,Jz,seqD,seqL,Ma,l];exact q
section
variable{h hh:Hd}{b g p:Addr}{n:Int}
theorem Off.cut(o:Off [b,g,p] h hh)(e:h p=none):Off [b,g] h (cut hh p):=λc hc=>by
 by_cases z:c=p
 . rw[z,NJ,e]
 . rw[Ki z];simp only[Ag,AC,or_false,not_or] at hc;exact o c (by simp[hc.1,hc.2,z])
theorem Wl.cut(w:Wl hh b g n)(e1:b≠p)(e2:g≠p):Wl (cut hh p) b g n:=w.cg (Ki e1) (Ki e2)
theorem Off.three(o:Off [b,g] h hh):Off [b,g,p] h hh:=o.more λx hx=>by simp at hx ⊢;rcases hx with z | z<;>simp[z]
theorem JL{x:Str}{i:Nat}{c:Nat}{k:DK}(hl:x.length<=An)(l:x.cps.toList[i]?=some c)(q:k (.str ⟨#[c]⟩) h):Gn (.str x) (.int (i:Nat)) h k:=by simp only[Gn,J0,Jz,seqD,seqL,l];exact⟨hl,q⟩
end
theorem Q9(cs:List Nat):JR (cs.map λc=>D.str ⟨#[c]⟩)=some (cs.map λc=>(⟨#[c]⟩:Str)):=by have:=LF (cs.map λc=>(⟨#[c]⟩:Str));rw[B8] at this;exact this
theorem RC{α β:Type}(f:α->β):∀(l:List α)(i:Nat),(l.map f).eraseIdx i=(l.eraseIdx i).map f
 | [],_=>rfl
 | _::_,0=>rfl
 | x::l,i+1=>by simp[List.eraseIdx,RC f l i]
theorem RN{α:Type}:∀{l:List α}{i:Nat}(h:i<l.length),(l[i]::l.eraseIdx i).Perm l
 | x::l,0,_=> .refl _
 | x::l,i+1,h=>by have:=RN (l:=l) (i:=i) (by simpa using h);simp only[List.getElem_cons_succ,List.eraseIdx];exact(List.Perm.swap _ _ _).trans (this.cons x)
theorem VX{h:Hd}{x:D}{k:DK}{ws:List (List WP)}(ok:∀w∈ws,WOk w)(e:GG h x= .lst (ws.map wD))(q:k (.bl (!ws.isEmpty)) h):Ip true x (.lst []) h k:=by
 show(bif Gm 50 (GG h x) && Gm 50 (.lst []) then k (.bl (!Gr (GG h x) (.lst []))) h else False)
 have:Gm 50 (.lst (ws.map wD))=true:=by rw[Gm,JW,Bp,A3];exact λw hw=>L7 (by decide) (ok w hw).cln
 rw[e,this];cases ws with
 | nil=>exact q
 | cons i r=>exact q
theorem WOk.sub{w v:List WP}(h:WOk w)(s:v.Sublist w):WOk v:=
 ⟨At s.length_le h.len,λp hp=>h.ok p (s.subset hp),h.asc.sublist (s.map _)⟩
theorem R7{xs:List D}{i:Nat}:GB xs none (some (i:Int))=xs.take i:=by
 unfold GB;rw[HT.sIx_none,HT.sIx_nat,Fn,Nat.sub_zero];rcases Nat.le_total i xs.length with h | h
 . rw[Nat.min_eq_left h]
 . rw[Nat.min_eq_right h,B9 (Al _),B9 h]
theorem Y4{xs:List D}{i:Nat}:GB xs (some ((i:Int)+1)) none=xs.drop (i+1):=by
 unfold GB;rw[show((i:Int)+1)=((i+1:Nat):Int) by lia,HT.sIx_none,HT.sIx_nat];rcases Nat.le_total (i+1) xs.length with h | h
 . rw[Nat.min_eq_left h,B9 (by rw[CY];exact Al _)]
 . rw[Nat.min_eq_right h,CI (Al _),CI h,List.take_nil]
theorem Vy{ts:List Str}{x:Str}:(ts.map D.str).any (λd=>Gr d (.str x))=decide (x∈ts):=by
 rw[List.any_map,A8,CA,decide_eq_true_iff];constructor
 . rintro⟨y,hy,e⟩;have:=KT (n:=0) (m:=0) (a:= .str y) (b:= .str x) (by simp[cln]) (by simp[cln]);rw[De,this,decide_eq_true_iff] at e;cases e;exact hy
 . intro m;refine⟨x,m,?_⟩;have:=KT (n:=0) (m:=0) (a:= .str x) (b:= .str x) (by simp[cln]) (by simp[cln]);rw[De,this];simp
theorem Vj(ts:List Str):G0 50 (ts.map D.str)=true:=by rw[JW,Bp,A3];intro x _;simp[Gm]
section
variable{h:Hd}{a:Addr}{neg:Bool}{k:DK}{ts:List Str}{x:Str}
theorem Pd(e:h a=some (.lst (ts.map .str)))(q:k (.bl (bif neg then !decide (x∈ts) else decide (x∈ts))) h):GN neg (.str x) (.ref a) h k:=by
 simp only[GN,e,K2,LX,seqD,seqL];show(bif G0 50 (ts.map D.str) && Gm 50 (.str x) then k (.bl (bif neg then !(ts.map D.str).any λd=>Gr d (.str x) else(ts.map D.str).any λd=>Gr d (.str x))) h else False)
 rw[Vj,Vy];exact q
end
theorem TU{w:List WP}{h:Hd}{k:DK}(q:k (.int ((w.map pD).length:Int)) h):GO [wD w] h k:=q
theorem LK{w:List WP}{lo hi:Option Int}{h:Hd}{k:DK}(q:k (.tup (GB (w.map pD) lo hi)) h):LN (wD w) lo hi h k:=q
noncomputable def JG(c:Nat):Prop:=(97<=c/\c<=122)\/(48<=c/\c<=57)
theorem zec{cs:List Nat}(h1:1<=cs.length)(h8:cs.length<=15)(ok:∀c∈cs,JG c):HolderOk (Dp ("":Str) (cs.map λc=>(⟨#[c]⟩:Str))):=by
 have e:=Oo cs;have hl:(Dp ("":Str) (cs.map λc=>(⟨#[c]⟩:Str))).length=cs.length:=by show Array.size _=_;rw[<-A4,e]
 exact⟨by rw[hl];exact h1,by rw[hl];exact h8,by rw[e];exact ok⟩
theorem Ox:("abcdefghijklmnopqrstuvwxyz0123456789":Str).cps.toList=(A6 26).map (· +97)++(A6 10).map (· +48):=by decide+kernel
theorem PD{r:Int}(h0:0<=r)(h1:r<36):∃(i c:Nat),r=(i:Int)/\("abcdefghijklmnopqrstuvwxyz0123456789":Str).cps.toList[i]?=some c/\JG c:=by
 rw[Ox];obtain⟨k,rfl⟩:∃k:Nat,r=k:=⟨r.toNat,by lia⟩;by_cases hk:k<26
 . refine⟨k,k+97,rfl,?_,.inl (by lia)⟩;rw[E8 (by simpa using hk),AB,Ee hk];rfl
 . refine⟨k,k - 26+48,rfl,?_,.inr (by lia)⟩;rw[Ex (by simpa using Nat.le_of_not_lt hk),AB,Ac,BD,Ee (by lia)];rfl
theorem PE{ns:List Int}{h:Hd}{k:DK}(hl:ns.length<=63)(q:k (.lst (ns.map .int)) h):LN (.lst (ns.map .int)) none (some 63) h k:=by show k (.lst (GB (ns.map .int) none (some ((63:Nat):Int)))) h;rw[R7,B9 (by rw[Ac];exact hl)];exact q
noncomputable def Jp(w:List WP)(f:Str):D:=match HF w f with | none=> .non | some s=> .tup [oD s.1,oD s.2]
noncomputable def X3:FS:=λds h k _=>match ds with
 | [x,y]=>∃(w:List WP)(f:Str),x=wD w/\y= .str f/\k (Jp w f) h
 | _=>False
noncomputable def VC:FS:=λds h k _=>match ds with
 | [x,y]=>∃a b:List WP,x=wD a/\y=wD b/\k (.bl (Gg a b)) h
 | _=>False
noncomputable def NL:FS:=λds h k _=>match ds with
 | [x]=>∃w:List WP,x=wD w/\w.length<=1000/\k (Ie w) h
 | _=>False
noncomputable def YD:FS:=λds h k _=>match ds with
 | [x]=>∃ws U:List (List WP),x= .lst (ws.map wD)/\UOk U/\(∀w∈ws,w∈U)/\∀qs,IsTop ws qs->GD qs->k (.lst (qs.map wD)) h
 | _=>False
noncomputable def QP(n:Nat):FS:=λds h k _=>match ds with
 | [x,y]=>x=y/\cln n x=true/\k (.bl true) h
 | _=>False
noncomputable abbrev Bk:=List (Str×List (List WP))
structure BkAt(h:Hd)(d:Addr)(bk:Bk):Prop where
 at':h d=some (.dct false (bk.map λr=> .str r.1) (bk.map λr=> .lst (r.2.map wD)))
 nd:(bk.map (·.1)).Nodup
noncomputable def VF:FS:=λds h k _=>∃(d:Addr)(x:Str)(bk:Bk)(U:List (List WP)),ds=[.ref d,.str x]/\BkAt h d bk/\UOk U/\(∀r∈bk,∀w∈r.2,w∈U)/\(bk.flatMap (·.2)).length<=10000/\∀qs O,(∀v,v∈O↔∃r∈bk,r.1≠x/\v∈r.2)->IsTop O qs->GD qs->k (.lst (qs.map wD)) h
theorem LY{h:Hd}{a b:Str}{neg:Bool}{k:DK}(q:k (.bl (bif neg then !decide (a=b) else decide (a=b))) h):Ip neg (.str a) (.str b) h k:=by
 have:=KT (n:=0) (m:=0) (a:= .str a) (b:= .str b) (by simp[cln]) (by simp[cln]);show(bif Gm 50 (.str a) && Gm 50 (.str b) then k (.bl (bif neg then !Gr (.str a) (.str b) else Gr (.str a) (.str b))) h else False)
 rw[this];have e:decide (D.str a= .str b)=decide (a=b):=by rw[decide_eq_decide];simp
 rw[e];simpa [Gm] using q
theorem VY{h:Hd}{k:DK}{ws:List (List WP)}(ok:∀w∈ws,WOk w)(q:k (.bl ws.isEmpty) h):Ip false (.lst (ws.map wD)) (.lst []) h k:=by
 show(bif Gm 50 (.lst (ws.map wD)) && Gm 50 (.lst []) then k (.bl (Gr (.lst (ws.map wD)) (.lst []))) h else False)
 have:Gm 50 (.lst (ws.map wD))=true:=by rw[Gm,JW,Bp,A3];exact λw hw=>L7 (by decide) (ok w hw).cln
 rw[this];cases ws with
 | nil=>exact q
 | cons i r=>exact q
noncomputable def O3:Option Int->Option Int->Bool
 | none,_=>false
 | some _,none=>true
 | some l,some s=>decide (s<l)
noncomputable def O2:Option Int->Option Int->Bool
 | none,_=>false
 | some _,none=>true
 | some l,some s=>decide (l<s)
theorem VW(a b:Option Int):O3 a b=!J7 a b:=by cases a<;>cases b<;>simp[O3,J7]<;>(rw[A8];simp)
theorem VZ(a b:Option Int):O2 a b=!J_ a b:=by cases a<;>cases b<;>simp[O2,J_]<;>(rw[A8];simp)
theorem L6{r:Str×List (List WP)}:∀{bk:Bk},(bk.map (·.1)).Nodup->r∈bk->G7 (bk.map λr=>D.str r.1) (bk.map λr=> .lst (r.2.map wD)) (.str r.1)=some (.lst (r.2.map wD))
 | b::bk,nd,m=>by
  rw[Aj,Aj,G7,Ln];rw[Aj,AL] at nd;rcases Ag.mp m with e | m
  . subst e;simp
  . have:b.1≠r.1:=λz=>nd.1 (z ▸ BF m);rw[decide_eq_false this];exact L6 nd.2 m
noncomputable def HG(bk:Bk):Str->List WP->Bool:=λx v=>bk.any λr=>decide (r.1=x) && decide (v∈r.2)
theorem heldB_iff{bk:Bk}{x:Str}{v:List WP}:HG bk x v=true↔∃r∈bk,r.1=x/\v∈r.2:=by unfold HG;rw[CA];simp
noncomputable def Gx(bk:Bk)(x:Str):Option (List (List WP)):=(bk.find? λr=>decide (r.1=x)).map (·.2)
theorem MM{bk:Bk}{x:Str}{ws:List (List WP)}(h:Gx bk x=some ws):(x,ws)∈bk:=by
 unfold Gx at h;obtain⟨r,hr,rfl⟩:=CH.mp h;have:=Eb hr;have e:r.1=x:=by simpa using this
 rw[<-e];exact Dk hr
theorem R5{bk:Bk}{x:Str}(h:Gx bk x=none):∀r∈bk,r.1≠x:=λr hr e=>by unfold Gx at h;rw[Option.map_eq_none_iff,List.find?_eq_none] at h;exact h r hr (by simpa using e)
theorem Vz{bk:Bk}{r r':Str×List (List WP)}:(bk.map (·.1)).Nodup->r∈bk->r'∈bk->r.1=r'.1->r=r':=by
 induction bk with
 | nil=>intro _ m;cases m
 | cons b bk ih=>
  intro nd m m' e;rw[Aj,AL] at nd;rcases Ag.mp m with z | z<;>rcases Ag.mp m' with z' | z'
  . rw[z,z']
  . exact(nd.1 (by rw[<-z,e];exact BF z')).elim
  . exact(nd.1 (by rw[<-z',<-e];exact BF z)).elim
  . exact ih nd.2 z z' e
theorem RF{bk:Bk}(nd:(bk.map (·.1)).Nodup){x:Str}(v:List WP):HG bk x v=decide (v∈(Gx bk x).getD []):=by
 rw[A8,heldB_iff,decide_eq_true_iff];cases e:Gx bk x with
 | none=>simp;exact λa b h1 h2=>(R5 e _ h1 h2).elim
 | some ws=>
  have m:=MM e;constructor
  . rintro⟨r,hr,h1,h2⟩;have:=Vz nd hr m h1;subst this;exact h2
  . exact λh=>⟨_,m,rfl,h⟩
theorem BkAt.dic{h:Hd}{d:Addr}{bk:Bk}(B:BkAt h d bk):Dic D.str false h d (λx=>(Gx bk x).map λws=> .lst (ws.map wD)):=by
 refine⟨bk.map (·.1),_,by rw[B8];exact B.at',by simp,B.nd,λx=>?_⟩;rw[B8];cases e:Gx bk x with
 | some ws=>exact L6 B.nd (MM e)
 | none=> refine LG λm=>?_;obtain⟨r,hr,z⟩:=AG.mp m;exact R5 e r hr (by simpa using z)
structure BkOk(bk:Bk)(hs:List Str)(U:List (List WP)):Prop where
 nd:∀r∈bk,r.2.Nodup
 inU:∀r∈bk,∀w∈r.2,w∈U
 inH:∀r∈bk,r.1∈hs
 tot:(bk.flatMap (·.2)).length<=10000
noncomputable def YA:FS:=λds h k _=>∃(s:ShA)(lab:G_)(hs hL:List Str)(U G:List (List WP))(d:Addr)(bk:Bk)(i:Int),ds=[.ref s.a,.ref d,.lst (hL.map .str),.lst (U.map wD),.int i]/\ShAt h lab s (HG bk) hs U G/\BkAt h d bk/\BkOk bk hs U/\(∀x∈hL,HolderOk x)/\hs.length<=63/\0<=i/\i<1+hL.length+U.length/\k (.bl true) h
theorem Oc{a b:List (List WP)}(h:GD a)(h':GD b)(n:a.Nodup)(n':b.Nodup)(m:∀v,v∈a↔v∈b):a=b:=
 C9 (λa b _ _ h1 h2=>RR h2 h1) h h' ((BU n n').mpr m)
theorem YV{a b:List Str}(h:a.Pairwise Hz)(h':b.Pairwise Hz)(m:∀v,v∈a↔v∈b):a=b:=by have nd:∀{l:List Str},l.Pairwise Hz->l.Nodup:=λz=>z.imp λh e=>PC h e;exact C9 (λa b _ _ h1 h2=>(BY _ (Ez h1 h2)).elim) h h' ((BU (nd h) (nd h')).mpr m)
noncomputable def Hv:Bk->Str->List (List WP)->Bk
 | [],x,ws=>[(x,ws)]
 | r::bk,x,ws=>if r.1=x then(x,ws)::bk else r::Hv bk x ws
theorem QG(x:Str)(ws:List (List WP)):∀bk:Bk,G2 (bk.map λr=>D.str r.1) (.str x)=(Hv bk x ws).map λr=>D.str r.1
 | []=>rfl
 | r::bk=>by
  rw[Aj,G2,Ln,Hv];by_cases e:r.1=x
  . rw[decide_eq_true e,if_pos e,cond_true,Aj,e]
  . rw[decide_eq_false e,if_neg e,cond_false,Aj,QG x ws bk]
theorem QH(x:Str)(ws:List (List WP)):∀bk:Bk,Hb (bk.map λr=>D.str r.1) (bk.map λr=> .lst (r.2.map wD)) (.str x) (.lst (ws.map wD))=(Hv bk x ws).map λr=>D.lst (r.2.map wD)
 | []=>rfl
 | r::bk=>by
  rw[Aj,Aj,Hb,Ln,Hv];by_cases e:r.1=x
  . rw[decide_eq_true e,if_pos e,cond_true,Aj]
  . rw[decide_eq_false e,if_neg e,cond_false,Aj,QH x ws bk]
theorem JC{x:Str}{ws:List (List WP)}{r:Str×List (List WP)}:∀{bk:Bk},(bk.map (·.1)).Nodup->(r∈Hv bk x ws↔r=(x,ws)\/(r∈bk/\r.1≠x))
 | [],_=>by simp[Hv]
 | b::bk,nd=>by
  rw[Aj,AL] at nd;rw[Hv];by_cases e:b.1=x
  . rw[if_pos e,Ag];constructor
    . rintro(z | z)
      . exact .inl z
      . exact .inr ⟨.tail _ z,λy=>nd.1 (by rw[e,<-y];exact BF z)⟩
    . rintro(z | ⟨z,n⟩)
      . exact .inl z
      . rcases Ag.mp z with y | y
        . rw[y] at n;exact(n e).elim
        . exact .inr y
  . rw[if_neg e,Ag,JC nd.2];constructor
    . rintro(z | z | ⟨z,n⟩)
      . exact .inr ⟨z ▸ .head _,by rw[z];exact e⟩
      . exact .inl z
      . exact .inr ⟨.tail _ z,n⟩
    . rintro(z | ⟨z,n⟩)
      . exact .inr (.inl z)
      . rcases Ag.mp z with y | y
        . exact .inl y
        . exact .inr (.inr ⟨y,n⟩)
theorem Ob{x:Str}{ws:List (List WP)}:∀{bk:Bk},(bk.map (·.1)).Nodup->((Hv bk x ws).map (·.1)).Nodup
 | [],_=>by simp[Hv]
 | b::bk,nd=>by
  have nd0:=nd;rw[Aj,AL] at nd;rw[Hv];by_cases e:b.1=x
  . rw[if_pos e,Aj,AL,<-e];exact nd
  . rw[if_neg e,Aj,AL];refine⟨λm=>?_,Ob nd.2⟩;obtain⟨r,hr,z⟩:=AG.mp m;rcases(JC nd.2).mp hr with y | ⟨y,_⟩
    . rw[y] at z;exact e z.symm
    . exact nd.1 (by rw[<-z];exact BF y)
theorem BkAt.put{h:Hd}{d:Addr}{bk:Bk}(B:BkAt h d bk)(x:Str)(ws:List (List WP)):BkAt (put h d (.dct false (G2 (bk.map λr=>D.str r.1) (.str x)) (Hb (bk.map λr=>D.str r.1) (bk.map λr=> .lst (r.2.map wD)) (.str x) (.lst (ws.map wD))))) d (Hv bk x ws):=
 ⟨by rw[put_same,QG x ws,QH],Ob B.nd⟩
theorem Zr{bk:Bk}(nd:(bk.map (·.1)).Nodup){x:Str}{ws ps:List (List WP)}{b:Bool}(hw:∀v,v∈ws↔(if v∈ps then b=true else HG bk x v=true)):HG (Hv bk x ws)=GX (HG bk) x ps b:=by
 funext y v;rw[A8,heldB_iff];unfold GX;by_cases e:y=x
 . subst e;rw[if_pos rfl];have:(∃r∈Hv bk y ws,r.1=y/\v∈r.2)↔v∈ws:=by
    constructor
    . rintro⟨r,hr,z1,z2⟩;rcases(JC nd).mp hr with z | ⟨_,n⟩
      . rw[z] at z2;exact z2
      . exact(n z1).elim
    . exact λz=>⟨(y,ws),(JC nd).mpr (.inl rfl),rfl,z⟩
   rw[this,hw];by_cases m:v∈ps<;>simp[m]
 . rw[if_neg e,heldB_iff];constructor
   . rintro⟨r,hr,z1,z2⟩;rcases(JC nd).mp hr with z | ⟨z,_⟩
     . rw[z] at z1;exact(e z1.symm).elim
     . exact⟨r,z,z1,z2⟩
   . rintro⟨r,hr,z1,z2⟩;exact⟨r,(JC nd).mpr (.inr ⟨hr,by rw[z1];exact e⟩),z1,z2⟩
theorem P_{U:List (List WP)}:∀{bk:Bk},(∀r∈bk,r.2.Nodup)->(∀r∈bk,∀w∈r.2,w∈U)->(bk.flatMap (·.2)).length<=bk.length*U.length
 | [],_,_=>by simp
 | r::bk,h1,h2=>by have ih:=P_ (bk:=bk) (λr z=>h1 r (.tail _ z)) (λr z=>h2 r (.tail _ z));have:=He _ _ (h1 r (.head _)) (h2 r (.head _));rw[CM,Ah,Ao,Nat.succ_mul];lia
theorem BkOk.mk'{bk:Bk}{hs:List Str}{U:List (List WP)}(nk:(bk.map (·.1)).Nodup)(nd:∀r∈bk,r.2.Nodup)(inU:∀r∈bk,∀w∈r.2,w∈U)(inH:∀r∈bk,r.1∈hs)(l1:hs.length<=63)(l2:U.length<=63):BkOk bk hs U:=by
 refine⟨nd,inU,inH,?_⟩;have h1:=P_ nd inU;have h2:bk.length<=63:=by
  have:=He _ _ nk λx hx=>by obtain⟨r,hr,z⟩:=AG.mp hx;rw[<-z];exact inH r hr
  rw[Ac] at this;lia
 have h3:bk.length*U.length<=63*63:=Nat.mul_le_mul h2 l2;lia
section
variable{h h':Hd}{lab:G_}{s:ShA}{hb:Str->List WP->Bool}{hs:List Str}{U G:List (List WP)}
theorem ShAt.keep(x:ShAt h lab s hb hs U G)(e:∀c,lab c≠none->h' c=h c):ShAt h' lab s hb hs U G:=by
 have ne:∀{c r},lab c=some r->h' c=h c:=λ{c r}z=>e c (by rw[z];exact λy=>by cases y);refine⟨⟨(ne x.b.la).trans x.b.self,x.b.la,x.b.lp,x.b.lt,x.b.lg,x.b.nB.keep (λ_ _ z=>z) λc z=>?_,x.b.nW.keep (λ_ _ z=>z) λc z=>?_,λc hc=>?_⟩,x.pl.cg (ne x.b.lp) (ne x.b.lt) (ne x.b.lg),x.uo,x.nd,x.len,x.sup⟩
 . rcases z with z | ⟨_,z⟩<;>exact ne z
 . rcases z with z | ⟨_,z⟩<;>exact ne z
 . rw[e c hc];exact x.b.cov c hc
theorem ShAt.off(x:ShAt h lab s hb hs U G){b g:Addr}{n:Int}(W:Wl h b g n)(o:Off [b,g] h h'):ShAt h' lab s hb hs U G:=x.keep λc hc=>by obtain⟨u,z,nl⟩:=x.b.cov c hc;have:=W.nl z nl;exact o.at2 this.1 this.2
end
structure LS(h:Hd)(b g:Addr)(n:Int)(lab:G_)(s:ShA)(hs:List Str)(U G:List (List WP))(d:Addr)(bk:Bk):Prop where
 W:Wl h b g n
 sh:ShAt h lab s (HG bk) hs U G
 B:BkAt h d bk
 ok:BkOk bk hs U
 ld:lab d=none
section
variable{h h':Hd}{b g d:Addr}{n m:Int}{lab lab':G_}{s:ShA}{hs:List Str}{U G:List (List WP)}{bk:Bk}
theorem LS.dne(x:LS h b g n lab s hs U G d bk):d≠b/\d≠g:=x.W.nl x.B.at' λ_ z=>by cases z
theorem LS.off(x:LS h b g n lab s hs U G d bk)(o:Off [b,g] h h')(W:Wl h' b g m):LS h' b g m lab s hs U G d bk:=
 ⟨W,x.sh.off x.W o,⟨(o.at2 x.dne.1 x.dne.2).trans x.B.at',x.B.nd⟩,x.ok,x.ld⟩
theorem LS.free(x:LS h b g n lab s hs U G d bk)(ex:Ext lab lab' h):lab' d=none/\lab' b=none/\lab' g=none:=by
 have no:∀c o,h c=some o->lab c=none->lab' c=none:=λc o z y=>AE λw=>by rw[ex.new c y w] at z;cases z
 have nl:∀c xs,h c=some (.lst xs)->lab c=none:=λc xs z=>AE λw=>by obtain⟨o,y,nl⟩:=x.sh.b.cov c w;rw[z] at y;cases y;exact nl _ rfl
 obtain⟨gs,ls,sd,c,h1,h2,_⟩:=x.W.ex;exact⟨no _ _ x.B.at' x.ld,no _ _ h1 (nl _ _ h1),no _ _ h2 (nl _ _ h2)⟩
theorem LS.tops(x:LS h b g n lab s hs U G d bk)(hn:∀y∈hs,y≠""){O:List (List WP)}(hO:∀v,v∈O↔∃r∈bk,r.1≠""/\v∈r.2){qs:List (List WP)}(t:IsTop O qs):IsTop (HI U (Gs hs (HG bk))) qs:=by
 have e:∀v,v∈HI U (Gs hs (HG bk))↔v∈O:=λv=>by
  rw[mem_onU,cnt_pos,hO];constructor
  . rintro⟨_,y,hy,z⟩;obtain⟨r,hr,z1,z2⟩:=heldB_iff.mp z;exact⟨r,hr,hn _ (x.ok.inH r hr),z2⟩
  . rintro⟨r,hr,_,z⟩;have:=heldB_iff.mpr ⟨r,hr,rfl,z⟩;exact⟨x.ok.inU r hr v z,r.1,x.ok.inH r hr,this⟩
 exact⟨t.nd,λw=>by rw[t.mem,e];exact⟨λ⟨a,b⟩=>⟨a,λo ho=>b o ((e o).mp ho)⟩,λ⟨a,b⟩=>⟨a,λo ho=>b o ((e o).mpr ho)⟩⟩⟩
theorem QC{O G G':List (List WP)}(t:IsTop O G)(t':IsTop O G')(v:List WP):v∈G↔v∈G':=by rw[t.mem,t'.mem]
end
theorem Wz{U:G1}{t u:GC}{E:DEnds}{σ:Sd}{h:Hd}(Pv:Sd->Hd->Prop)(p:∀N:Sd->Hd->Prop,(∀σ' h',Pv σ' h'->N σ' h')->U σ h (λc h1=>bif c then t {E with nx:=N} σ h1 else N σ h1) (E.xc σ))(q:∀σ' h',Pv σ' h'->u E σ' h'):GA (G4 U t GY) u E σ h:=p (u E) q
theorem Ri{Te:TD}{g:GT}{u:GC}{E:DEnds}{σ:Sd}{h:Hd}(Pv:Sd->Hd->Prop)(p:∀N:Sd->Hd->Prop,(∀σ' h',Pv σ' h'->N σ' h')->Te σ h (λd h1=>g d σ h1 N) (E.xc σ))(q:∀σ' h',Pv σ' h'->u E σ' h'):GA (Go Te g) u E σ h:=p (u E) q
theorem Mu(a b:Int){L:Nat}(h:L<=1):∃v:Int,[D.int a,.int b][L]?=some (.int v)/\((L=0/\v=a)\/(L=1/\v=b)):=by
 have:L=0\/L=1:=by lia
 rcases this with rfl | rfl
 . exact⟨a,rfl,.inl ⟨rfl,rfl⟩⟩
 . exact⟨b,rfl,.inr ⟨rfl,rfl⟩⟩
theorem QU:∀hL:List Str,∃hs:List Str,hs.Nodup/\(∀x,x∈hs↔x∈hL)/\hs.length<=hL.length
 | []=>⟨[],.nil,λ_=>Iff.rfl,Al _⟩
 | x::hL=>by
  obtain⟨hs,nd,m,l⟩:=QU hL;by_cases e:x∈hs
  . refine⟨hs,nd,λy=>?_,by simp;lia⟩;rw[Ag,<-m];exact⟨.inr,λz=>z.elim (λz=>z ▸ e) id⟩
  . exact⟨x::hs,AL.mpr ⟨e,nd⟩,λy=>by rw[Ag,Ag,m],by simpa using l⟩
theorem NO{xs:List D}{h:Hd}{k:DK}(q:k (.int (xs.length:Int)) h):GO [.lst xs] h k:=q
noncomputable def Sj(c:Nat):Bool:=(decide (97<=c) && decide (c<=122)) || (decide (48<=c) && decide (c<=57))
noncomputable def Ka(k:Nat):Str:=Au (toString (k:Int))++"w"++Au (toString ((k:Int)*(k:Int)))
theorem VO:(A6 56).all (λk=>decide (1<=(Ka k).length) && decide ((Ka k).length<=15) && (Ka k).cps.toList.all Sj)=true:=by decide+kernel
theorem TS{k:Nat}(h:k<56):HolderOk (Ka k):=by have:=A3.mp VO k (BA.mpr h);rw[Ae,Ae,decide_eq_true_iff,decide_eq_true_iff,A3] at this;refine⟨this.1.1,this.1.2,λc hc=>?_⟩;have:=this.2 c hc;unfold Sj at this;simpa using this
theorem WC:(A6 56).all (λk=>decide ((Au (toString (k:Int))).length<=15) && decide ((Au (toString (k:Int))++"w").length<=15) && decide ((Au (toString ((k:Int)*(k:Int)))).length<=15))=true:=by decide+kernel
theorem VP{k:Nat}(h:k<56):(Au (toString (k:Int))).length<=15/\(Au (toString (k:Int))++"w").length<=15/\(Au (toString ((k:Int)*(k:Int)))).length<=15:=by have:=A3.mp WC k (BA.mpr h);rw[Ae,Ae,decide_eq_true_iff,decide_eq_true_iff,decide_eq_true_iff] at this;exact⟨this.1.1,this.1.2,this.2⟩
theorem RG{i:Int}(h0:0<=i)(h1:i<=100000):i.natAbs.log2<1920:=by
 by_cases z:i.natAbs=0
 . rw[z];decide
 . rw[Nat.log2_lt z];exact BJ (show i.natAbs<=100000 by lia) (by decide)
theorem OC{h:Hd}{a b:Bool}{neg:Bool}{k:DK}(q:k (.bl (bif neg then !(a==b) else(a==b))) h):Ip neg (.bl a) (.bl b) h k:=q
theorem Ye{xs:List D}{h:Hd}{k:List D->Hd->Prop}(q:k xs h):Nb [.lst xs] h k:=q
theorem PX{h:Hd}{d:Addr}{bk:Bk}{x:Str}{ws:List (List WP)}{N:Hd->Prop}(B:BkAt h d bk)(l:bk.length<=1000)(q:∀h',Off [d] h h'->BkAt h' d (Hv bk x ws)->N h'):Hw (.ref d) (.str x) (.lst (ws.map wD)) h N:=by simp only[Hw,B.at',KJ,HX];refine⟨by rw[Ac,sizeLine_eq];lia,q _ ((Off.refl _ _).put (.head _)) (B.put x ws)⟩
theorem XF{h:Hd}{x:D}{n:Nat}{k:DK}(c:cln n x=true)(hn:n<=50)(q:k (.bl false) h):Ip true x x h k:=by
 have hr:GG h x=x:=by cases x<;>first | rfl | (simp[cln] at c)
 show(bif Gm 50 (GG h x) && Gm 50 (GG h x) then k (.bl (!Gr (GG h x) (GG h x))) h else False)
 rw[hr,L7 hn c];have:Gr x x=true:=by rw[KT c c];simp
 rw[this];exact q
theorem l3{P:D->D->D->Prop}{ds:List D}(q:match ds with | [x,y,z]=>P x y z | _=>False):∃x y z,ds=[x,y,z]/\P x y z:=by match ds,q with | [x,y,z],q=>exact⟨x,y,z,rfl,q⟩
theorem e3{α:Type}{us:List α}(h:us.length=3):∃a b c,us=[a,b,c]:=by match us,h with | [a,b,c],_=>exact⟨a,b,c,rfl⟩
theorem e4{α:Type}{us:List α}(h:us.length=4):∃a b c d,us=[a,b,c,d]:=by match us,h with | [a,b,c,d],_=>exact⟨a,b,c,d,rfl⟩
theorem e5{α:Type}{us:List α}(h:us.length=5):∃a b c d e,us=[a,b,c,d,e]:=by match us,h with | [a,b,c,d,e],_=>exact⟨a,b,c,d,e,rfl⟩
end Lake
set_option maxHeartbeats 4000000
namespace Lake.M18
open PySem PySem.Spec PyProof.Rows Lake
noncomputable def top(i:Nat):Stmt:=PySem.Challenge.pw_newsways_k18_put_on_and_taken_off.main.body.getD i (.Pass ⟨0,0,0,0⟩)
noncomputable def H_(i j:Nat):Stmt:=match top i with | .ClassDef _ _ _ b _ _ _ _ _ _ _=>b.getD j (.Pass ⟨0,0,0,0⟩) | s=>s
noncomputable def spF:FS:=λds _ _ _=>False
noncomputable abbrev r0:RwD:=⟨"__len__","Shelf.__len__",(.mt "Shelf"),["self"],[],["self"],(H_ 37 1),X0,1⟩
noncomputable abbrev r1:RwD:=⟨"_law_well","_law_well",.fn,["script"],[],["script","great","small","seed","number"],(top 39),X6,1⟩
noncomputable abbrev r2:RwD:=⟨"_law_take","_law_take",.fn,["well","many"],[],["well","many","number","cell"],(top 40),LB,1⟩
noncomputable abbrev r3:RwD:=⟨"_law_name","_law_name",.fn,["well","most"],[],["well","most","letters"],(top 41),X1,2⟩
noncomputable abbrev r4:RwD:=⟨"_law_fields","_law_fields",.fn,["well","many"],[],["well","many","letters","found","k","pick","first","letter","at","word"],(top 42),ZM,3⟩
noncomputable abbrev r5:RwD:=⟨"_law_base","_law_base",.fn,["well"],[],["well","pick","sign","number"],(top 43),NK,2⟩
noncomputable abbrev r6:RwD:=⟨"_law_grid","_law_grid",.fn,["well"],[],["well","pick","size"],(top 44),Xx,3⟩
noncomputable abbrev r7:RwD:=⟨"_law_span","_law_span",.fn,["well","grid","wide"],[],["well","grid","wide","pick","low","high"],(top 45),YL,2⟩
noncomputable abbrev r8:RwD:=⟨"_law_wish","_law_wish",.fn,["well","names","grid","wide"],[],["well","names","grid","wide","parts","field","low","high"],(top 46),YQ,3⟩
noncomputable abbrev r9:RwD:=⟨"_law_wishes","_law_wishes",.fn,["well","names","grid","wide","many"],[],["well","names","grid","wide","many","found","k","pick","wish","old","at"],(top 47),ZD,4⟩
noncomputable abbrev Tq:RwD:=⟨"_law_pool","_law_pool",.fn,["well","names","grid","wide","many"],[],["well","names","grid","wide","many","found","wish"],(top 54),YG,5⟩
noncomputable abbrev Tp:RwD:=⟨"_law_holders","_law_holders",.fn,["well","many"],[],["well","many","signs","found","k","pick","first","sign","at","word"],(top 53),zdX,2⟩
noncomputable abbrev Tj:RwD:=⟨"__init__","Pool.__init__",(.mk "Pool"),["self"],[],["self"],(H_ 32 0),X4,1⟩
noncomputable abbrev Tg:RwD:=⟨"__init__","Shelf.__init__",(.mk "Shelf"),["self"],[],["self"],(H_ 37 0),YK,3⟩
noncomputable abbrev Tf:RwD:=⟨"_law_picked","_law_picked",.fn,["well","row"],[],["well","row","left","many"],(top 55),ZO,2⟩
noncomputable abbrev Td:RwD:=⟨"_law_rank","_law_rank",.fn,["wish"],[],["wish","found","field","low","high"],(top 50),NL,1⟩
noncomputable abbrev S_:RwD:=⟨"_law_part","_law_part",.fn,["wish","field"],[],["wish","field","other","low","high"],(top 48),X3,1⟩
noncomputable abbrev SZ:RwD:=⟨"_law_covers","_law_covers",.fn,["one","other"],[],["one","other","field","low","high","there"],(top 49),VC,2⟩
noncomputable abbrev SY:RwD:=⟨"_law_greatest","_law_greatest",.fn,["wishes"],[],["wishes","some","wish","top"],(top 51),YD,4⟩
noncomputable abbrev SX:RwD:=⟨"_law_top","_law_top",.fn,["book","but"],[],["book","but","some","holder"],(top 56),VF,5⟩
noncomputable abbrev SW:RwD:=⟨"is_holder","is_holder",.fn,["thing"],[],["thing"],(top 35),(R0 (.bl true)),1⟩
noncomputable abbrev SV:RwD:=⟨"check_holder","check_holder",.fn,["thing"],[],["thing"],(top 36),(R0 .non),2⟩
noncomputable abbrev SU:RwD:=⟨"fields_ascend","fields_ascend",.fn,["parts"],[],["parts"],(top 16),(NM (.bl true)),1⟩
noncomputable abbrev SS:RwD:=⟨"is_field","is_field",.fn,["thing"],[],["thing"],(top 14),YB,1⟩
noncomputable abbrev SR:RwD:=⟨"is_whole","is_whole",.fn,["thing"],[],["thing"],(top 8),YO,1⟩
noncomputable abbrev SQ:RwD:=⟨"is_end","is_end",.fn,["thing"],[],["thing"],(top 9),VD,2⟩
noncomputable abbrev SO:RwD:=⟨"is_span","is_span",.fn,["thing"],[],["thing","low","high"],(top 10),X5,3⟩
noncomputable abbrev SM:RwD:=⟨"is_wish_part","is_wish_part",.fn,["thing"],[],["thing","field","low","high"],(top 15),X2,4⟩
noncomputable abbrev SL:RwD:=⟨"is_wish","is_wish",.fn,["thing"],[],["thing"],(top 17),(NM (.bl true)),5⟩
noncomputable abbrev SK:RwD:=⟨"are_wishes","are_wishes",.fn,["thing"],[],["thing"],(top 19),(Os (.bl true)),6⟩
noncomputable abbrev SJ:RwD:=⟨"are_unlike_wishes","are_unlike_wishes",.fn,["thing"],[],["thing"],(top 20),(Os (.bl true)),7⟩
noncomputable abbrev SI:RwD:=⟨"check_unlike_wishes","check_unlike_wishes",.fn,["thing"],[],["thing"],(top 21),(Os .non),8⟩
noncomputable abbrev SH:RwD:=⟨"rank_of_low","rank_of_low",.fn,["low"],[],["low"],(top 25),VE,1⟩
noncomputable abbrev SG:RwD:=⟨"rank_of_high","rank_of_high",.fn,["high"],[],["high"],(top 26),Xy,1⟩
noncomputable abbrev SF:RwD:=⟨"rank","rank",.fn,["wish"],[],["wish"],(top 24),Q7,2⟩
noncomputable abbrev SE:RwD:=⟨"wishes_in_order","wishes_in_order",.fn,["wishes"],[],["wishes"],(top 31),YF,5⟩
noncomputable abbrev SD:RwD:=⟨"change_tops","Pool.change_tops",(.mt "Pool"),["self","come","gone"],[],["self","come","gone","wish"],(H_ 32 5),Rz,6⟩
noncomputable abbrev SC:RwD:=⟨"spans_by_field","spans_by_field",.fn,["wish"],[],["wish"],(top 22),ZA,1⟩
noncomputable abbrev SB:RwD:=⟨"span_reaches","span_reaches",.fn,["one","other"],[],["one","other","low","high","other_low","other_high","reaches_down","reaches_up"],(top 11),YI,1⟩
noncomputable abbrev SA:RwD:=⟨"reaches_spans","reaches_spans",.fn,["one","other_spans"],[],["one","other_spans","field","low","high"],(top 23),Z9,2⟩
noncomputable abbrev S9:RwD:=⟨"is_under","is_under",.fn,["wish","others"],[],["wish","others","spans","other"],(top 29),YN,3⟩
noncomputable abbrev S8:RwD:=⟨"greatest_of","greatest_of",.fn,["wishes"],[],["wishes","unlike"],(top 28),YM,4⟩
noncomputable abbrev S7:RwD:=⟨"put_in","Pool.put_in",(.mt "Pool"),["self","wishes"],[],["self","wishes","new","wish","come","gone"],(H_ 32 1),YH,7⟩
noncomputable abbrev S4:RwD:=⟨"is_held","Shelf.is_held",(.mt "Shelf"),["self","holder","wish"],[],["self","holder","wish"],(H_ 37 10),ZN,1⟩
noncomputable abbrev Sz:RwD:=⟨"hold","Shelf.hold",(.mt "Shelf"),["self","holder","wish"],[],["self","holder","wish","held","holding"],(H_ 37 11),Xz,1⟩
noncomputable abbrev Sy:RwD:=⟨"put","Shelf.put",(.mt "Shelf"),["self","holder","wishes"],[],["self","holder","wishes","wish"],(H_ 37 3),(PF true),9⟩
noncomputable abbrev Sx:RwD:=⟨"risen_without","Pool.risen_without",(.mt "Pool"),["self","lost"],[],["self","lost","fallen","staying","freed"],(H_ 32 4),YJ,5⟩
noncomputable abbrev Sw:RwD:=⟨"take_out","Pool.take_out",(.mt "Pool"),["self","wishes"],[],["self","wishes","lost","wish","gone"],(H_ 32 2),ZB,7⟩
noncomputable abbrev Sv:RwD:=⟨"let_go","Shelf.let_go",(.mt "Shelf"),["self","holder","wish"],[],["self","holder","wish"],(H_ 37 12),YE,1⟩
noncomputable abbrev Su:RwD:=⟨"take","Shelf.take",(.mt "Shelf"),["self","holder","wishes"],[],["self","holder","wishes","wish"],(H_ 37 4),(PF false),9⟩
noncomputable abbrev Ss:RwD:=⟨"_law_alike","_law_alike",.fn,["found","due"],[],["found","due"],(top 52),(Nj 5 QP),7⟩
noncomputable abbrev Sr:RwD:=⟨"check_wish","check_wish",.fn,["thing"],[],["thing"],(top 18),(NM .non),6⟩
noncomputable abbrev Sp:RwD:=⟨"holders","Shelf.holders",(.mt "Shelf"),["self","wish"],[],["self","wish"],(H_ 37 7),zdY,7⟩
noncomputable abbrev So:RwD:=⟨"wishes","Shelf.wishes",(.mt "Shelf"),["self","holder"],[],["self","holder"],(H_ 37 6),ZC,6⟩
noncomputable abbrev Sn:RwD:=⟨"_law_asked","_law_asked",.fn,["shelf","book","holders_now","pool","k"],[],["shelf","book","holders_now","pool","k","some","holder","wish","due"],(top 57),YA,8⟩
noncomputable abbrev Sm:RwD:=⟨"greatest_without","Pool.greatest_without",(.mt "Pool"),["self","wishes"],[],["self","wishes","lost","staying"],(H_ 32 3),ZE,6⟩
noncomputable abbrev Sl:RwD:=⟨"greatest","Shelf.greatest",(.mt "Shelf"),["self","beside"],[.non],["self","beside"],(H_ 37 5),YC,7⟩
noncomputable abbrev Sk:RwD:=⟨"law","law",.fn,["script"],[],["script","well","large","names","grid","pool","holders_now","shelf","book","questions","k","holder","putting","there","some","handed","top","found","behind","due"],(top 58),Kp,10⟩
noncomputable abbrev p:Prg:=⟨[r0,r1,r2,r3,r4,r5,r6,r7,r8,r9,Tq,Tp,Tj,Tg,Tf,Td,S_,SZ,SY,SX,SW,SV,SU,SS,SR,SQ,SO,SM,SL,SK,SJ,SI,SH,SG,SF,SE,SD,SC,SB,SA,S9,S8,S7,S4,Sz,Sy,Sx,Sw,Sv,Su,Ss,Sr,Sp,So,Sn,Sm,Sl,Sk],[("Pool",["times","tops"]),("Shelf",["by_holder","by_wish","pool"])],[("MOST_LETTERS",8),("MOST_SIGNS",15)]⟩
section
set_option bootstrap.genMatcherCode false
set_option compiler.extract_closed false
set_option hygiene false
local macro_rules (kind:=str) | s=>do
 let some v:=s.isStrLit? | B2
 unless v.front== '@' do B2
 let num (r:List Char):Nat×List Char:=match r with
  | 'Z' ::a::b::r=>((a.toNat - 48)*40+(b.toNat - 48),r)
  | a::r=>(a.toNat - 48,r)
  | []=>(0,[])
 let rec js:Nat->List Char->Lean.MacroM (List Lean.Term×List Char)
  | 0,r=>return ([],r)
  | n+1,r=>match r with
   | ';' ::r=>return ([],r)
   | '_' ::r=>do let(l,r) <-js n r;return ((<- `(none))::l,r)
   | r=>do let(i,r):=num r;let(l,r) <-js n r;return ((<- `(some $(Lean.quote i)))::l,r)
 let rec go:Nat->List Char->Lean.MacroM (Lean.Term×List Char)
  | 0,_=>B2
  | _+1,[]=>B2
  | n+1,c::r=>do
   let(c,r,b):=if c== '9' then(r.headD ' ',r.drop 1,true) else(c,r,false)
   let sp:=if b then(match c with | 't' | 'g' | 'h' | 'i' | 'a' | 'l' | 'y' | 'e' | 'q' | 'J' | 'K' =>"tt" | 'u' =>"NJ#tttt" | 'v' | 'j' | 'x' | 'z' | 'A' | 'r' | 'H' | 's' =>"t" | 'k' =>"##" | 'w' | 'n' =>"#" | 'm' | 'B' =>"#t" | 'o' | 'b' | 'f' | 'D' | 'E' | 'G' =>"ttt" | 'C' | 'p' =>"NJttttt" | 'F' =>"NJ#ttttt" | 'I' =>"##t" | 'L' =>"###t" | _=>"") else(match c with | 'a' | 'q' | 'p' =>"#" | 'r' | 'i' | 'C' | 'g' | 'N' | 'T' =>"#t" | 'b' | 'Y' | 'K' | '$' | '~' | 'o' | 'e' | 'j' | 'O' | '4' | '(' | 'P' | 'G' | 'R' | '+' | ')' | 's' | '<' | '!' | '*' | 'Q' | '>' | 'X' | '}' | '?' | '1' =>"tt" | 'v' | 'h' | 'f' | 'W' | 'l' | '3' | 'B' | 'w' | '%' | 'k' | 'F' | 'Z' | '5' | '6' | 'D' | ';' | 'E' | '7' | '8' | 'U' | 't' | '#' | 'H' | 'A' | 'I' | ',' =>"t" | ']' | 'y' | 'n' | ':' | '&' | '2' =>"ttt" | '.' =>"NJ#tttt" | 'x' =>"NJtttt" | '^' =>"#tt" | 'J' =>"##tt" | _=>"")
   let mut r:=r
   let mut x:Array Lean.Term:=#[]
   for k in sp.toList do
    if k== 't' then let(a,q) <-go n r;x:=x.push a;r:=q
    else if k== '#' then let(i,q):=num r;x:=x.push (Lean.quote i);r:=q
    else if k== 'N' then let w:=r.takeWhile (· != ';');x:=x.push (<- `([$((((String.ofList w).splitOn ",").map λy=>(Lean.quote y:Lean.Term)).toArray),*]));r:=r.drop (w.length+1)
    else let(l,q) <-js 99 r;x:=x.push (<- `([$(l.toArray),*]));r:=q
   let y (i:Nat):Lean.Term:=x[i]!
   let t <-if b then(match c with | 't' => `(U3 $(y 0) $(y 1) (Iy _)) | 'u' => `(XY (N':= $(y 0)) (js:= $(y 1)) (i:= $(y 2)) nd rfl (Or.inl rfl) rfl (IL (by kernel_rfl)) $(y 3) (λ_ _ _ _ _=> $(y 4)) (λ_ _ _ _ _=> $(y 5)) (λ_ _ _ _ _=> $(y 6))) | 'g' => `(K6 ER PySem.F.slot_list_pop PySem.F.type_list_pop (@VV _) $(y 0) $(y 1)) | 'h' => `(K6 PySem.F.plainAttrs_str PySem.F.slot_str_join PySem.F.type_str_join (@XE _) $(y 0) $(y 1)) | 'v' => `(Vt rfl rfl g.B.max_ $(y 0)) | 'i' => `(U4 $(y 0) $(y 1) (Iy _)) | 'j' => `(XM rfl g.B.tuple_ $(y 0)) | 'k' => `(Yt (g.c $(y 0) rfl) (g.mki $(y 1) rfl) (hr.mono (by decide)) JE rfl) | 'a' => `(WM $(y 0) $(y 1) (Iy _)) | 'l' => `(Wp $(y 0) $(y 1) (Iy _)) | 'w' => `(N9 (i:= $(y 0)) (Ts (by kernel_rfl)) rfl (Or.inr rfl)) | 'm' => `(XV (g.f $(y 0) rfl) (hr.mono (by decide)) rfl g.B.sorted_ rfl $(y 1)) | 'n' => `(Yv rfl (g.ct $(y 0) rfl)) | 'o' => `(Wq $(y 0) $(y 1) $(y 2)) | 'b' => `(WN $(y 0) $(y 1) $(y 2)) | 'x' => `(WX rfl g.B.zip_ $(y 0)) | 'y' => `(Uv $(y 0) $(y 1) (Iy _)) | 'c' => `(Lu rfl g.B.int_ V2) | 'd' => `(Lu rfl g.B.bool_ WE) | 'z' => `(UH $(y 0)) | 'e' => `(Uu $(y 0) $(y 1) (Iy _)) | 'A' => `(Zu (HO hr) rfl $(y 0) rfl g.B.len_ rfl g.B.set_) | 'B' => `(R9 rfl (g.f $(y 0) rfl) (hr.mono (by decide)) rfl g.B.sorted_ rfl $(y 1)) | 'C' => `(OT (t:=false) (HO hr) (N':= $(y 0)) (js:= $(y 1)) rfl (IL (by kernel_rfl)) $(y 2) (λ_ _ _ _ _=> $(y 3)) (λ_ _ _ _ _=> $(y 4)) (λ_ _ _ _ _=> $(y 5)) (λ_ _ _ _ _=> $(y 6))) | 'p' => `(OT (t:=true) (HO hr) (N':= $(y 0)) (js:= $(y 1)) rfl (IL (by kernel_rfl)) $(y 2) (λ_ _ _ _ _=> $(y 3)) (λ_ _ _ _ _=> $(y 4)) (λ_ _ _ _ _=> $(y 5)) (λ_ _ _ _ _=> $(y 6))) | 'f' => `(Q4 (t:=true) (HO hr) $(y 0) $(y 1) $(y 2) ⟨rfl,rfl,rfl,rfl⟩) | 'q' => `(Vp (HO hr) $(y 0) $(y 1) (by with_unfolding_all rfl)) | 'D' => `(Q5 (t:=false) (HO hr) $(y 0) $(y 1) $(y 2) ⟨rfl,rfl,rfl,rfl⟩) | 'E' => `(Q5 (t:=true) (HO hr) $(y 0) $(y 1) $(y 2) ⟨rfl,rfl,rfl,rfl⟩) | 'F' => `(XW (t:=true) (HO hr) (N':= $(y 0)) (js:= $(y 1)) (i:= $(y 2)) nd rfl (Or.inl rfl) rfl (IL (by kernel_rfl)) $(y 3) (λ_ _ _ _ _=> $(y 4)) (λ_ _ _ _ _=> $(y 5)) (λ_ _ _ _ _=> $(y 6)) (λ_ _ _ _ _=> $(y 7))) | 'G' => `(Wj (HO hr) $(y 0) $(y 1) $(y 2) (@VL _)) | 'r' => `(Ys rfl g.B.isinstance_ $(y 0)) | 'H' => `(Nf FH (hr.mono (by lia)) JF rfl $(y 0)) | 'I' => `(WO (g.c $(y 0) rfl) (g.m $(y 1) rfl) (hr.mono (by decide)) rfl g.B.len_ $(y 2)) | 'J' => `(TF $(y 0) $(y 1) (Iy _)) | 's' => `(WS rfl g.B.str_ $(y 0)) | 'K' => `(Ur $(y 0) $(y 1) (Iy _)) | 'L' => `(Zv (g.c $(y 0) rfl) (g.mx $(y 1) $(y 2) rfl) (hr.mono (by decide)) JE $(y 3)) | _=>B2) else(match c with | 'a' => `(dv $(y 0)) | 'r' => `(Vo (g.c $(y 0) rfl) (by decide) $(y 1)) | 'c' => `(Vg) | 'b' => `(WJ $(y 0) $(y 1)) | 'v' => `(Vs rfl g.B.len_ $(y 0)) | 'h' => `(UZ $(y 0)) | 'f' => `(UY $(y 0)) | 'V' => `(Xa) | 'd' => `(Vq) | 'W' => `(Wi $(y 0)) | ']' => `(Ux $(y 0) $(y 1) $(y 2)) | 'l' => `(UQ $(y 0)) | 'q' => `(N9 (i:= $(y 0)) (Ts (by kernel_rfl)) rfl (Or.inl rfl)) | '3' => `(Vk rfl g.B.abs_ $(y 0)) | 'Y' => `(UJ $(y 0) $(y 1)) | 'B' => `(XS $(y 0)) | 'K' => `(UD $(y 0) $(y 1)) | '$' => `(Vv $(y 0) $(y 1)) | '~' => `(TG $(y 0) $(y 1) (Iy _)) | '.' => `(XX (N':= $(y 0)) (js:= $(y 1)) (i:= $(y 2)) nd rfl (Or.inl rfl) rfl (IL (by kernel_rfl)) $(y 3) (λ_ _ _ _ _=> $(y 4)) (λ_ _ _ _ _=> $(y 5)) (λ_ _ _ _ _=> $(y 6))) | 'o' => `(Vl $(y 0) $(y 1)) | 'i' => `(P1 (i:= $(y 0)) nd rfl (Or.inl rfl) $(y 1)) | 'p' => `(N9 (i:= $(y 0)) nd rfl (Or.inl rfl)) | 'y' => `(UW Z3 rfl $(y 0) $(y 1) $(y 2)) | 'w' => `(US $(y 0)) | '%' => `(UE $(y 0)) | 'e' => `(Wm $(y 0) $(y 1)) | 'j' => `(Vr (HO hr) $(y 0) $(y 1) (λ_ _=>rfl)) | 'k' => `(UF $(y 0)) | 'O' => `(TH (HO hr) $(y 0) $(y 1) (Iy _)) | '4' => `(WK $(y 0) $(y 1)) | '(' => `(UP (@TZ _ (HO hr)) $(y 0) $(y 1)) | 'P' => `(UT $(y 0) $(y 1)) | 'F' => `(Wn $(y 0)) | 'm' => `(UX) | 'n' => `(Uz $(y 0) $(y 1) $(y 2)) | 'L' => `(UL) | 'C' => `(P1 (i:= $(y 0)) nd rfl (Or.inr rfl) $(y 1)) | 'g' => `(Nf (g.f $(y 0) rfl) (hr.mono (by decide)) JE rfl $(y 1)) | 'Z' => `(Zm rfl g.B.range_ $(y 0)) | 'M' => `(XQ) | 'N' => `(Nf (g.f $(y 0) rfl) (hr.mono (by decide)) JF rfl $(y 1)) | 'x' => `(Uy (N':= $(y 0)) (js:= $(y 1)) rfl (IL (by kernel_rfl)) $(y 2) (λ_ _ _ _ _=> $(y 3)) (λ_ _ _ _ _=> $(y 4)) (λ_ _ _ _ _=> $(y 5))) | ':' => `(UK $(y 0) $(y 1) $(y 2)) | 'G' => `(U2 (HO hr) $(y 0) $(y 1) (Iy _)) | 'R' => `(Wr (HO hr) $(y 0) $(y 1) (by with_unfolding_all rfl)) | '+' => `(K6 ER PySem.F.slot_list_append PySem.F.type_list_append (@Zj _) $(y 0) $(y 1)) | '5' => `(W_ rfl rfl g.B.sorted_ $(y 0)) | ')' => `(UM $(y 0) $(y 1)) | '6' => `(Vu rfl rfl g.B.min_ $(y 0)) | 'D' => `(UN $(y 0)) | 'u' => `(UG) | '&' => `(Us $(y 0) $(y 1) $(y 2)) | 'S' => `(WV) | 's' => `(XN $(y 0) $(y 1)) | 'T' => `(UO (n:= $(y 0)) rfl $(y 1)) | ';' => `(Ws $(y 0)) | '<' => `(We $(y 0) $(y 1)) | 'E' => `(DW.t $(y 0)) | '7' => `(XK $(y 0)) | '=' => `(Q3 (t:=true)) | '^' => `(UV (g.c $(y 0) rfl) (by decide) $(y 1) $(y 2)) | '_' => `(Q3 (t:=false)) | '8' => `(WZ rfl g.B.list_ $(y 0)) | '!' => `(TE $(y 0) $(y 1) (Iy _)) | '*' => `(Ut $(y 0) $(y 1) (Iy _)) | 'z' => `(Up) | 'U' => `(Wf $(y 0)) | 'Q' => `(TI $(y 0) $(y 1)) | 't' => `(Wd $(y 0)) | '#' => `(U1 $(y 0)) | '0' => `(Lu rfl g.B.str_ Ps) | 'H' => `(WL rfl g.B.isinstance_ $(y 0)) | 'A' => `(Va $(y 0)) | 'I' => `(UI $(y 0)) | '>' => `(Uw $(y 0) $(y 1)) | ',' => `(Vm rfl rfl g.B.all_ $(y 0)) | '`' => `(U0) | 'X' => `(Vn $(y 0) $(y 1)) | '{' => `(Lu rfl g.B.tuple_ Rn) | '|' => `(Lu rfl g.B.list_ Qa) | '}' => `(Uq (HO hr) $(y 0) $(y 1) (Iy _)) | '?' => `(UU (HO hr) $(y 0) $(y 1)) | 'J' => `(WQ (g.c $(y 0) rfl) (g.m $(y 1) rfl) (hr.mono (by decide)) JE $(y 2) $(y 3)) | '1' => `(U_ (HO hr) $(y 0) $(y 1) (by with_unfolding_all rfl)) | '2' => `(Q4 (t:=false) (HO hr) $(y 0) $(y 1) $(y 2) ⟨rfl,rfl,rfl,rfl⟩) | _=>B2)
   return (t,r)
 let(t,_) <-go 999 (v.toList.drop 1)
 `(λg hr nd=> $t)
local macro_rules | `(tactic| walk_at "x6")=> `(tactic| (rintro ds h k e ⟨_,_,_,_,_,_,rfl,_⟩;rfl))
local macro_rules | `(tactic| walk_at "x1")=> `(tactic| (rintro ds h k e ⟨_,rfl,_⟩;rfl))
local macro_rules | `(tactic| walk_at "x4")=> `(tactic| (rintro ds h k e ⟨_,_,_,_,rfl,_⟩;rfl))
local macro_rules | `(tactic| walk_at "x3")=> `(tactic| (rintro ds h k e ⟨_,_,_,rfl,_⟩;rfl))
local macro_rules | `(tactic| walk_at "x5")=> `(tactic| (rintro ds h k e ⟨_,_,_,_,_,rfl,_⟩;rfl))
local macro_rules | `(tactic| walk_at "x7")=> `(tactic| (rintro ds h k e ⟨_,_,_,_,_,_,_,rfl,_⟩;rfl))
local macro_rules | `(tactic| walk_at "m1")=> `(tactic| (intro ds h k e q;obtain⟨_,rfl,_⟩:=l1 q;rfl))
local macro_rules | `(tactic| walk_at "m2")=> `(tactic| (intro ds h k e q;obtain⟨_,_,rfl,_⟩:=l2 q;rfl))
local macro_rules | `(tactic| walk_at "x8")=> `(tactic| (rintro ds h k e ⟨_,_,_,_,_,_,_,_,rfl,_⟩;rfl))
local macro_rules | `(tactic| walk_at "x9")=> `(tactic| (rintro ds h k e ⟨_,_,_,_,_,_,_,_,_,rfl,_⟩;rfl))
local macro_rules | `(tactic| walk_at "b1")=> `(tactic| (intro kV doc pm an cdv ct us hl;obtain⟨_,rfl⟩:=e1 hl;rfl))
local macro_rules | `(tactic| walk_at "b2")=> `(tactic| (intro kV doc pm an cdv ct us hl;obtain⟨_,_,rfl⟩:=e2 hl;rfl))
local macro_rules | `(tactic| walk_at "b3")=> `(tactic| (intro kV doc pm an cdv ct us hl;obtain⟨_,_,_,rfl⟩:=e3 hl;rfl))
local macro_rules | `(tactic| walk_at "b4")=> `(tactic| (intro kV doc pm an cdv ct us hl;obtain⟨_,_,_,_,rfl⟩:=e4 hl;rfl))
local macro_rules | `(tactic| walk_at "b5")=> `(tactic| (intro kV doc pm an cdv ct us hl;obtain⟨_,_,_,_,_,rfl⟩:=e5 hl;rfl))
local macro_rules | `(tactic| walk_at "b21")=> `(tactic| (intro j hj;match j,hj with | 0,_=>(intro T kV doc pm an cdv ct ds us hd hu;match ds,us,hd,hu with | [_],[_],_,_=>exact⟨_,rfl,rfl⟩) | 1,_=>(intro T kV doc pm an cdv ct ds us hd hu;match ds,us,hd,hu with | [_],[_,_],_,_=>exact⟨_,rfl,rfl⟩) | _+2,h=>simp at h))
theorem d0:Ge p r0:=Gk Gi (by walk_at "x6") (by walk_at "b1") "@fhvbr1a0c" (by
 rintro ds h k e ⟨s,lab,hb,hs,U,G,rfl,sh,q⟩;dsimp only[FP,Gh,FL];obtain⟨W,dW,n0,n1⟩:=sh.b.nW.ex;refine Ha rfl sh.b.self rfl ?_;obtain⟨xs,vs,e4,nd,m,_,_⟩:=dW.row key_wish;simp only[FK,GO,seqD,seqL,e4];refine Gb ?_;rw[Ac];refine q xs nd λw=>?_;rw[m];constructor
 . intro z;obtain⟨v,hv⟩:=C7.mp z;exact(n1 w v hv).1
 . rintro⟨x,hx⟩;cases ew:W w with
   | none=>rw[n0 w ew x] at hx;cases hx
   | some v=>rfl)
theorem d1:Ge p r1:=Gk Gi (by walk_at "x1") (by walk_at "b1") "@e9ucell;_;1l]a0VWdq0B9t3ba0cYdd$3ba0cKYddYdde.cell;_;2l]a0VWdq0B~3ba0cYdd$a0dei3odvba2ceyla2p4fi3$ooKa3dKa4dddfh%wba1ba2ba3bdc" (by
 rintro ds h k e ⟨ns,rfl,hl,q⟩;refine FX ?_;dsimp only[Iq,Hq,JU,MS,Lk,Lj,dC];refine FI rfl (PE hl (Hc ?_));refine Lf (λds σ acc hh=>hh=h/\∃(is ms:List Int)(o:Option D),ds=is.map .int/\acc=ms.map .int/\σ=[o]) (λ_ _ _ _ _=>True.intro) ?_ ?_ _ ⟨rfl,ns,[],none,rfl,rfl,rfl⟩
 . rintro _ _ _ _ hh N ⟨rfl,_ | ⟨i,is⟩,ms,o,ed,rfl,rfl⟩ hN
   . cases ed
   cases ed;unfold Ho;dsimp only[FM,F_,FJ,Gh,FL,FK,dC];refine FI rfl ?_;show _/\_;refine⟨⟨by decide,by decide,by decide⟩,?_⟩;rcases Az (decide ((10:Int)^(18:Int).toNat<=(if i<0 then -i else i))) with z | z
   . refine FZ (b:=decide ((10:Int)^(18:Int).toNat<=(if i<0 then -i else i))) z ?_
     refine FI rfl ?_;show _/\_;refine⟨⟨by decide,by decide,by decide⟩,?_⟩;show _/\_;refine⟨⟨by decide,by decide,by decide⟩,?_⟩;show _/\_;refine⟨⟨by decide,by decide⟩,?_⟩;show _/\_;refine⟨(by show(0:Int)<10^(60:Int).toNat*10^(60:Int).toNat;decide),?_⟩;exact hN _ _ _ ⟨rfl,is,ms++[_],_,rfl,by rw[AS];rfl,rfl⟩
   . exact Gy (b:=decide ((10:Int)^(18:Int).toNat<=(if i<0 then -i else i))) z (hN _ _ _ ⟨rfl,is,ms,_,rfl,rfl,rfl⟩)
 rintro _ _ hh ⟨rfl,_,gs,o,_,rfl,rfl⟩;intro p hp;dsimp only[FM];have h1p:put hh p (.lst (gs.map .int)) p=some (.lst (gs.map .int)):=put_same;have o1:Off [p] hh (put hh p (.lst (gs.map .int))):=(Off.refl _ _).put (by simp);generalize put hh p (.lst (gs.map .int))=h1 at h1p o1;refine KY ?_;dsimp only[JU,MS,Lk,Lj,dC];refine FI rfl (PE hl (Hc ?_));refine Lf (λds σ acc h'=>h'=h1/\∃(is ms:List Int)(o:Option D),ds=is.map .int/\acc=ms.map .int/\(∀x∈ms,0<=x/\x<wM)/\ms.length+is.length<=63/\σ=[o]) (λ_ _ _ _ _=>True.intro) ?_ ?_ _ ⟨rfl,ns,[],none,rfl,rfl,(λ_ z=>by cases z),by simpa using hl,rfl⟩
 . rintro _ _ _ _ hh N ⟨rfl,_ | ⟨i,is⟩,ms,o,ed,rfl,okm,lm,rfl⟩ hN
   . cases ed
   cases ed;rw[Ao] at lm;unfold Ho;dsimp only[FM,F_,FJ,Gh,FL,FK,dC];refine FI rfl ?_;show _/\_;refine⟨⟨by decide,by decide,by decide⟩,?_⟩;rcases Az (decide ((if i<0 then -i else i)<(10:Int)^(18:Int).toNat)) with z | z
   . refine FZ (b:=decide ((if i<0 then -i else i)<(10:Int)^(18:Int).toNat)) z ?_
     refine FI rfl ⟨(by show(0:Int)<2147483563;decide),?_⟩;exact hN _ _ _ ⟨rfl,is,ms++[i%2147483563],_,rfl,by rw[AS];rfl,λx hx=>(Aq.mp hx).elim (okm x) λz=>by rw[Af.mp z];exact⟨BN _ (by decide),B0 _ (by decide)⟩,by rw[Ah];simp;lia,rfl⟩
   . exact Gy (b:=decide ((if i<0 then -i else i)<(10:Int)^(18:Int).toNat)) z (hN _ _ _ ⟨rfl,is,ms,_,rfl,rfl,okm,by lia,rfl⟩)
 rintro _ _ h' ⟨eh,is,ls,o,_,rfl,okl,ll,rfl⟩;rw[eh];dsimp only[FM];refine FX ?_;dsimp only[FJ,Gh,FL,FK,dC,FM];refine FI rfl ?_;simp only[GO,seqD,seqL,Gu];refine HE (d:= .lst (ls.map .int)) rfl (Hc ?_);refine Hf (λds σ h'=>h'=h1/\∃(st:Int)(is:List Int)(o:Option D),ds=is.map .int/\(∀x∈is,0<=x/\x<wM)/\0<=st/\st<wM/\σ=[some (.lst (ns.map .int)),some (.ref p),some (.lst (ls.map .int)),some (.int st),o]) (λ_ _ _ _=>True.intro) ?_ ?_ _ ⟨rfl,_,ls,none,rfl,okl,?_,?_,rfl⟩
 . rintro _ _ _ _ N ⟨rfl,st,_ | ⟨i,is⟩,o,ed,okm,s0,s1,rfl⟩ hN
   . cases ed
   cases ed;have y:=okm i (.head _);dsimp only[FM,Go,FJ,dC];unfold wM at s1 y;refine FI rfl ⟨⟨Ij (by lia) (by lia),by decide⟩,FI rfl ⟨⟨Ij (by lia) (by lia),by decide⟩,?_⟩⟩;dsimp only[Gu];exact⟨(by show(0:Int)<2147483563;decide),hN _ _ ⟨rfl,_,is,_,rfl,λx hx=>okm x (.tail _ hx),BN _ (by decide),B0 _ (by decide),rfl⟩⟩
 . rintro _ h' ⟨eh,st,is,o,_,_,s0,s1,rfl⟩;rw[eh];dsimp only[FP,Iq,FL,FK,dC,sz];refine FI rfl (FI rfl (FI rfl λb hb=>?_));have bp:b≠p:=by rintro rfl;rw[h1p] at hb;cases hb
   refine Gb (q b p _ ?_ hp (λc hc=>?_) ⟨⟨gs,ls,st,0,put_same,(FR bp.symm).trans h1p,okl,s0,s1,by decide,by decide⟩,bp⟩)
   . rw[<-o1.at1 bp];exact hb
   . simp only[Ag,AC,or_false,not_or] at hc;rw[FR hc.1];exact o1.at1 hc.2
 . show(0:Int)<=7+((ls.map D.int).length:Int);lia
 . show 7+((ls.map D.int).length:Int)<wM;rw[Ac];unfold wM;lia)
theorem d2:Ge p r2:=Gk Gi (by walk_at "x4") (by walk_at "b2") "@enOja0dkwcei2jja0ddeP4a2a1(ja0dden~a2a1fF9gja0dbdcmfh$a2a1mePoja0dd(a0dei3denOja0dkwcfi3ojja0d$ja0dvbja0dcdmei2$Yoja0dKa3oKja0dddddeP$ooKja0dda2ja0dd(a0dfh$4a2da1" (by
 rintro ds h k e ⟨b,g,n,many,rfl,W,hn,hm,hm2,q⟩;obtain⟨gs,ls,sd,c,e1,e2,z4,z5,z6,z7,z8⟩:=W.ex;have bg:=W.ne;refine Ii ?_;dsimp only[F_,FJ,dC,FY,FK,sz];refine FI rfl (GI (i:=0) e1 rfl ?_);refine Re gs (by simp only[GG,e2]) ?_;cases gs with
 | cons x r=>
  dsimp only[List.isEmpty,Fu,cond_true];refine FX ?_
  try dsimp only[FJ,dC,F_]
  refine FI rfl (GI (i:=0) e1 rfl (GI (i:=0) e2 rfl ?_));dsimp only[FM];refine FX ?_
  try dsimp only[FJ,dC,F_]
  refine FI rfl (FI rfl ?_);refine⟨⟨hm,Int.lt_of_lt_of_le hm2 (by decide)⟩,?_⟩;dsimp only[IU];refine FI rfl (GI (i:=0) e1 rfl (Nh (i:=0) e2 (by simp) ?_));have f1:put h g (.lst (((x::r).map D.int).set 0 (.int (x / many)))) b=some (.lst [.ref g,.lst (ls.map .int),.int sd,.int c]):=(FR bg).trans e1;have f2:put h g (.lst (((x::r).map D.int).set 0 (.int (x / many)))) g=some (.lst ((x / many::r).map .int)):=put_same;have o1:Off [b,g] h (put h g (.lst (((x::r).map D.int).set 0 (.int (x / many))))):=(Off.refl _ _).put (by simp);generalize put h g (.lst (((x::r).map D.int).set 0 (.int (x / many))))=h1 at f1 f2 o1;refine Ii ?_
  try dsimp only[FJ,dC,F_]
  refine FI rfl (FI rfl ?_);have r0:=BN x (Int.ne_of_gt hm);have r1:=B0 x hm;cases hd:decide (x<many) with
  | true=> refine FZ (b:=decide (x<many)) hd ?_;dsimp only[Iu,Ir,FL,dC,FJ,FP,FK];refine FI rfl (GI (i:=0) f1 rfl ?_);refine⟨by simp only[IR,f2],OW (i:=0) f2 rfl (by decide) ?_⟩;refine FI (i:=2) rfl (FI (i:=1) rfl ⟨hm,Gb (q _ _ r0 r1 (o1.put (by simp)) ⟨⟨r,ls,sd,c,(FR bg).trans f1,put_same,z4,z5,z6,z7,by lia⟩,bg⟩)⟩)
  | false=> refine Gy (b:=decide (x<many)) hd ?_;dsimp only[GY,FP,FJ,dC];exact FI rfl (FI rfl ⟨hm,Gb (q _ _ r0 r1 o1 ⟨⟨x / many::r,ls,sd,c,f1,f2,z4,z5,z6,z7,by lia⟩,bg⟩)⟩)
 | nil=>
  dsimp only[List.isEmpty,Cr,cond_false,GY];refine FX ?_
  try dsimp only[FJ,dC,F_]
  refine FI rfl (GI (i:=3) e1 rfl ?_);dsimp only[Gu,IU];refine FI rfl (Nh (i:=3) e1 (by simp) ?_);have f1:put h b (.lst ([D.ref g,.lst (ls.map .int),.int sd,.int c].set 3 (.int (c+1)))) b=some (.lst [.ref g,.lst (ls.map .int),.int sd,.int (c+1)]):=put_same;have f2:put h b (.lst ([D.ref g,.lst (ls.map .int),.int sd,.int c].set 3 (.int (c+1)))) g=some (.lst []):=(FR bg.symm).trans e2;have o1:Off [b,g] h (put h b (.lst ([D.ref g,.lst (ls.map .int),.int sd,.int c].set 3 (.int (c+1))))):=(Off.refl _ _).put (by simp);generalize put h b (.lst ([D.ref g,.lst (ls.map .int),.int sd,.int c].set 3 (.int (c+1))))=h1 at f1 f2 o1;refine FX ?_;dsimp only[FM];have rest:∀cell:Int,1<=cell->cell<=wM->(GA (Go (FJ IH (FJ Hh (FJ Gu (FJ Gn (FN 0) (dC (.int 2))) (FJ Ik (FN 3) (FJ Gu (FJ Ik (FJ Gn (FN 0) (dC (.int 3))) (dC (.int 3163))) (dC (.int 1))))) (dC (.int 5))) (dC (.int 2147483563))) (FM 2)) (GA (Go (FJ IH (FJ Gu (FJ Gu (FJ Ik (FJ Gn (FN 0) (dC (.int 2))) (dC (.int 40692))) (FN 2)) (FJ Gn (FN 0) (dC (.int 3)))) (dC (.int 2147483563))) (IU (FN 0) (dC (.int 2)) Hw λ_ _=>False)) (FP (FJ IH (FJ MY (FN 2) (dC (.int 8))) (FN 1))))) (HR k e) [some (.ref b),some (.int many),none,some (.int cell)] h1:=by
   intro cell l0 l1;have sm:∀z:Int,z.natAbs<2^900->z.natAbs<2^1000:=λz h=>CD h (by decide);have b3:(c+1).natAbs<2^900:=BJ (show(c+1).natAbs<=2^41 by lia) (by decide);have b4:((c+1)*3163+1).natAbs<2^900:=BJ (show((c+1)*3163+1).natAbs<=2^60 by lia) (by decide);have b5:cell.natAbs<2^900:=BJ (show cell.natAbs<=2^60 by unfold wM at l1;lia) (by decide);have big:(sd+cell*((c+1)*3163+1)).natAbs<2^1000:=by
    have a5:cell*((c+1)*3163+1)<=2^60*2^60:=CT (by unfold wM at l1;lia) (by lia) (by lia) (by decide);have a6:0<=cell*((c+1)*3163+1):=Ek (by lia) (by lia);generalize cell*((c+1)*3163+1)=y at*;have a8:(sd+y).natAbs<2^125:=by unfold wM at z6;lia
    exact CD a8 (by decide)
   refine FX ?_;dsimp only[FJ,dC];refine FI rfl (GI (i:=2) f1 rfl (FI rfl (FI rfl (GI (i:=3) f1 rfl ?_))));refine⟨⟨sm _ b3,by decide⟩,⟨sm _ b5,sm _ b4⟩,⟨by decide,by decide,big⟩,(by show(0:Int)<2147483563;decide),?_⟩;dsimp only[FM];generalize(sd+cell*((c+1)*3163+1))^(5:Int).toNat=y;have y0:=BN y (show(2147483563:Int)≠0 by decide);have y1:=B0 y (show(0:Int)<2147483563 by decide);generalize y%2147483563=u at*;have b6:sd.natAbs<2^1000:=sm _ (BJ (show sd.natAbs<=2^60 by unfold wM at z6;lia) (by decide));refine FX ?_;dsimp only[FJ,dC];refine FI rfl (GI (i:=2) f1 rfl ⟨⟨b6,by decide⟩,FI rfl ?_⟩);dsimp only[Gu];refine FI rfl (GI (i:=3) f1 rfl ⟨(by show(0:Int)<2147483563;decide),?_⟩);dsimp only[IU];refine FI rfl (Nh (i:=2) f1 (by simp) ?_);dsimp only[FP,FJ,dC];have v0:=BN (sd*40692+u+(c+1)) (show(2147483563:Int)≠0 by decide);have v1:=B0 (sd*40692+u+(c+1)) (show(0:Int)<2147483563 by decide);refine FI rfl ⟨⟨by decide,by decide⟩,FI rfl ⟨hm,Gb (q _ _ (BN _ (by lia)) (B0 _ hm) (o1.put (by simp)) ⟨⟨[],ls,_,c+1,put_same,(FR bg.symm).trans f2,z4,v0,v1,by lia,by lia⟩,bg⟩)⟩⟩
  refine Ii ?_;dsimp only[F_,FJ,dC,FY,FK,sz];refine FI rfl (GI (i:=1) f1 rfl ?_);refine Re ls rfl ?_;cases ls with
  | nil=>exact rest 1 (by decide) (by decide)
  | cons y ys=>
   dsimp only[List.isEmpty,Fu,cond_true];have lpos:(0:Int)<(((y::ys).map D.int).length:Int):=by rw[Ac,Ao];lia
   have i0:=BN (c+1) (Int.ne_of_gt lpos);have i1:=B0 (c+1) lpos;refine FZ rfl ?_;dsimp only[Go,Gh,FL,FJ,dC,FK];refine FI rfl (GI (i:=1) f1 rfl (FI rfl (GI (i:=3) f1 rfl (FI rfl (GI (i:=1) f1 rfl ?_)))));refine(⟨lpos,?_⟩:_/\_);obtain⟨j,hj⟩:∃j:Nat,(c+1)%(((y::ys).map D.int).length:Int)=(j:Int):=⟨_,(Int.toNat_of_nonneg i0).symm⟩;have hj2:j<(y::ys).length:=by rw[hj,Ac] at i1;lia
   dsimp only;rw[hj];have gz:=z4 _ (AI hj2);refine Hj (i:=j) (d:= .int ((y::ys)[j])) (by rw[AB,Ap hj2];rfl) ?_;exact rest _ (by lia) (by lia))
theorem d3:Ge p r3:=Gk Gi (by walk_at "x4") (by walk_at "b2") "@eC2Lfh9hLbkxk,well,letters;_02;Zbodg2ba0ba1ccq0Mja2N2ba1bdcc" (by
 rintro ds h k e ⟨b,g,n,most,rfl,W,hn,m1,m8,q⟩;refine FX ?_;dsimp only[FP,dC,FM,Ir,FL,FY,Hq,IT,FJ,FV,FK];refine⟨rfl,?_⟩;refine FI rfl (FI rfl (G5 W (by lia) (by lia) (by lia) λr h1 r0 r1 o1 W1=>?_));dsimp only[Gu];refine⟨⟨by lia,by lia⟩,?_⟩;refine Lf (λds σ acc hh=>∃cs v,acc=cs.map (λc:Nat=>D.str ⟨#[c]⟩)/\(cs.length:Int)+ds.length=1+r/\(∀c∈cs,JY c=true)/\σ=[v,some (.ref b),some (.str "abcdefghijklmnopqrstuvwxyz")]/\Off [b,g] h hh/\Wl hh b g (n+1+cs.length)) (λ_ _ _ _ _=>True.intro) ?_ ?_ _ ⟨[],none,rfl,by simp;lia,(λ_ z=>by cases z),rfl,o1,W1.mono (by simp)⟩
 . rintro d ds _ _ hh N ⟨cs,v,rfl,hl,ok,rfl,oo,WW⟩ hN;unfold Ho;dsimp only[FM,HL,FJ,FV,FL,dC,FK,cond_true];rw[Ao] at hl;refine FI rfl (FI rfl (G5 WW (by lia) (by decide) (by decide) λj h2 j0 j1 o2 W2=>?_));obtain⟨i,c,rfl,hc,okc⟩:=Pq j0 j1;refine JL (by show 26<=An;rw[sizeLine_eq];lia) (i:=i) (c:=c) hc ?_;exact hN _ _ _ ⟨cs++[c],_,by simp,by rw[Ah];simp;lia,λx hx=>(Aq.mp hx).elim (ok x) λz=>by rw[Af.mp z];exact okc,rfl,oo.trans o2,W2.mono (by rw[Ah];simp;lia)⟩
 . rintro _ _ hh ⟨cs,v,rfl,hl,ok,rfl,oo,WW⟩;simp only[Dl] at hl;simp only[Mo,seqL,Q9];exact⟨Qe cs (by lia),Gb (q _ _ ⟨_,rfl,Zz (by lia) (by lia) ok⟩ oo (WW.mono (by lia)))⟩)
theorem d4:Ge p r4:=Gk Gi (by walk_at "x4") (by walk_at "b2") "@ei2Lei3%wbg3ba0bdcceyZbg2ba0ba1ccp4ei5g2ba0bdcei6ja3g2ba0bvba3ccei7ja2g2ba0bdcei8g2ba0bvba6ccei9:jkwboa7a6boa6a7boo:a6VWa8a7:a6Woa8dVba7ca5VWdenGa5dfi9g3ba0bdcmfnRa9a3fF+a3ba9cmfhk5ba3c" (by
 rintro ds h k e ⟨b,g,n,many,rfl,W,hn,m1,m6,q⟩;refine FX ?_;dsimp only[dC,FM];refine FX ?_;dsimp only[Iq,FV,FL,dC,FK,sz];refine FI rfl ⟨b,g,n,7,rfl,W,by lia,by decide,by decide,?_⟩;rintro _ h1 ⟨x0,rfl,ok0⟩ o1 W1;intro r hr;have nr:=W1.free hr;have hr0:h r=none:=(o1.at2 nr.1.symm nr.2.symm) ▸ hr;have W2:=W1.put (o:= .lst [.str x0]) hr;have o2:Off [b,g,r] h (put h1 r (.lst [.str x0])):=(Off.three o1).put (by simp);have h2r:put h1 r (.lst [.str x0]) r=some (.lst ([x0].map .str)):=put_same;generalize put h1 r (.lst [.str x0])=h2 at W2 o2 h2r;dsimp only[FM];refine KV ?_;dsimp only[IT,FV,FL,FK];refine FI rfl (FI rfl (G5 W2 (by lia) (by lia) (by lia) λc h3 c0 c1 o3 W3=>⟨⟨by lia,by lia⟩,?_⟩));have h3r:=(o3.at2 nr.1.symm nr.2.symm).trans h2r;refine Hf (λds σ hh=>∃(ts:List Str)(y4 y5 y6 y7 y8 y9:Option D),σ=[some (.ref b),some (.int many),some (.str "abcdefghijklmnopqrstuvwxyz"),some (.ref r),y4,y5,y6,y7,y8,y9]/\Off [b,g,r] h hh/\(ts.length:Int)+ds.length<=1+c/\Wl hh b g (n+130 - 20*ds.length)/\hh r=some (.lst (ts.map .str))/\ts.Nodup/\1<=ts.length/\∀t∈ts,FieldOk t) (λ_ _ _ _=>True.intro) ?_ ?_ _ ⟨[x0],none,none,none,none,none,none,rfl,o2.trans (Off.three o3),by simp;lia,W3.mono (by simp;lia),h3r,by simp,by simp,λt ht=>by rw[Af.mp ht];exact ok0⟩
 . rintro d ds _ h4 N ⟨ts,y4,y5,y6,y7,y8,y9,rfl,o4,lt,W4,h4r,nd,l1,ok⟩ hN;rw[Ao] at lt W4;dsimp only[FM];refine FX ?_;dsimp only[FV,FL,dC,FK,FM];refine FI rfl (G5 W4 (by lia) (by decide) (by decide) λpick h5 p0 p1 o5 W5=>?_);have h5r:=(o5.at2 nr.1.symm nr.2.symm).trans h4r;refine FX ?_;dsimp only[FJ,FV,FL,Gh,FK];refine FI (d:= .ref r) rfl (FI rfl (FI (d:= .ref r) rfl ?_));simp only[GO,seqD,seqL,h5r];refine G5 W5 (by lia) (by rw[Ac];lia) (by rw[Ac];lia) λj h6 j0 j1 o6 W6=>?_;have h6r:=(o6.at2 nr.1.symm nr.2.symm).trans h5r;rw[Ac] at j1;obtain⟨i,rfl⟩:∃i:Nat,j=(i:Int):=⟨j.toNat,by lia⟩;have hi:i<ts.length:=by lia
   have okf:=ok _ (AI hi);refine GI h6r (d:= .str ts[i]) (by rw[AB,Ap hi];rfl) ?_;generalize ts[i]=first at okf
   dsimp only[FM];refine FX ?_;dsimp only[FJ,FV,FL,dC,FK];refine FI rfl (FI rfl (G5 W6 (by lia) (by decide) (by decide) λj h7 j0 j1 o7 W7=>?_));obtain⟨i2,c2,rfl,hc,okc⟩:=Pq j0 j1;have h7r:=(o7.at2 nr.1.symm nr.2.symm).trans h6r;refine JL (by show 26<=An;rw[sizeLine_eq];lia) hc ?_;have okl:FieldOk (⟨#[c2]⟩:Str):=⟨by show 1<=1;decide,by show 1<=8;decide,λc' hc'=>by
    have:c'=c2:=by simpa using hc'
    rw[this];exact okc⟩
   generalize(⟨#[c2]⟩:Str)=letter at okl;have f1:=okf.one;have f8:=okf.eight;have g1:=okl.one;have g8:=okl.eight;have sz:(100:Nat)<=An:=by rw[sizeLine_eq];lia
   dsimp only[FM];refine FX ?_;dsimp only[FV,FL,Gh,FK,FM];refine FI rfl (FI rfl ⟨by lia,G5 W7 (by lia) (by lia) (by lia) λat' h8 a0 a1 o8 W8=>?_⟩);have h8r:=(o8.at2 nr.1.symm nr.2.symm).trans h7r;have o48:=o4.trans (Off.three (p:=r) (o5.trans (o6.trans (o7.trans o8))));have len2:∀x y:Str,(x++y).length=x.length+y.length:=λx y=>by show(x.cps++y.cps).size=_;rw[Array.size_append];rfl
   have mem2:∀(x y:Str)(c:Nat),c∈(x++y).cps.toList->c∈x.cps.toList\/c∈y.cps.toList:=λx y c hc=>by have:c∈(x.cps++y.cps).toList:=hc;rw[FD] at this;exact Aq.mp this
   refine FX ?_;dsimp only[K8,FJ,FY,Lk,Lj,dC];refine FI rfl (FI rfl ⟨by lia,FI rfl (FI rfl ⟨by lia,FI rfl (FI rfl ⟨by lia,λz1 a1' _ a3 _=>?_⟩)⟩)⟩);refine FI rfl ⟨by lia,FI rfl (FI rfl ⟨by lia,λz2 b1 _ b3 _=>?_⟩)⟩;refine⟨by rw[len2];lia,FI rfl (FI rfl ?_)⟩;obtain⟨j,rfl⟩:∃j:Nat,pick=(j:Int):=⟨pick.toNat,by lia⟩;obtain⟨V,hV,w1,w100,wl'⟩:∃V:Str,[D.str (letter++first),.str (first++letter),.str (z1++letter++z2),.str letter][j]?=some (.str V)/\1<=V.length/\V.length<=100/\∀c∈V.cps.toList,JY c=true:=by
    have:j=0\/j=1\/j=2\/j=3:=by lia
    rcases this with rfl | rfl | rfl | rfl
    . refine⟨_,rfl,by rw[len2];lia,by rw[len2];lia,λc hc=>?_⟩;rcases mem2 _ _ c hc with z | z
      . exact okl.all c z
      . exact okf.all c z
    . refine⟨_,rfl,by rw[len2];lia,by rw[len2];lia,λc hc=>?_⟩;rcases mem2 _ _ c hc with z | z
      . exact okf.all c z
      . exact okl.all c z
    . refine⟨_,rfl,by rw[len2,len2];lia,by rw[len2,len2];lia,λc hc=>?_⟩;rcases mem2 _ _ c hc with z | z
      . rcases mem2 _ _ c z with z | z
        . exact okf.all c (a3 c z)
        . exact okl.all c z
      . exact okf.all c (b3 c z)
    . exact⟨_,rfl,g1,by lia,okl.all⟩
   refine Hj hV ⟨by lia,λword v1 v2 v3 v4=>?_⟩;have okw:FieldOk word:=⟨v4 8 rfl rfl (by decide) w1,by have:=v2 8 rfl (by decide);lia,λc hc=>wl' c (v3 c hc)⟩;dsimp only[FM];have fin:∀(E':DEnds)(word:Str)h9,E'.nx=N->FieldOk word->Off [b,g,r] h h9->h9 r=some (.lst (ts.map .str))->Wl h9 b g (n+130 - 20*ds.length)->G4 (F_ (FJ (GN true) (FN 9) (FN 3))) (Iu (Ir "list" JO (FN 3) (FL (FN 9) FK))) GY E' [some (.ref b),some (.int many),some (.str "abcdefghijklmnopqrstuvwxyz"),some (.ref r),some d,some (.int j),some (.str first),some (.str letter),some (.int at'),some (.str word)] h9:=by
    intro E' word h9 eN okw o9 h9r W9;dsimp only[G4,F_,FJ,GY];refine FI rfl (FI (d:= .ref r) rfl (Pd h9r ?_));by_cases hm:word∈ts
    . rw[decide_eq_true hm];show E'.nx _ _;rw[eN];exact hN _ _ ⟨ts,_,_,_,_,_,_,rfl,o9,by lia,W9,h9r,nd,l1,ok⟩
    . rw[decide_eq_false hm];refine FZ rfl ?_;dsimp only[Iu,Ir,FL,FK];refine FI (d:= .ref r) rfl ⟨by simp only[IR,h9r],?_⟩;refine FI rfl (JT h9r ⟨by rw[Ac,sizeLine_eq];lia,?_⟩);rw[eN];exact hN _ _ ⟨ts++[word],_,_,_,_,_,_,rfl,o9.put (by simp),by rw[Ah];simp;lia,W9.cg (FR nr.1) (FR nr.2),by rw[put_same,AS];rfl,AZ.mpr ⟨nd,by simp,λa ha b hb=>by rw[Af.mp hb];exact λz=>hm (z ▸ ha)⟩,by rw[Ah];lia,λt ht=>(Aq.mp ht).elim (ok t) λz=>by rw[Af.mp z];exact okw⟩
   refine Ii ?_;dsimp only[F_,FJ,dC];refine FI rfl (GZ ?_);rcases Az ((j:Int)==3) with h3 | h3
   . refine FZ (b:=((j:Int)==3)) h3 ?_;dsimp only[Go,FV,FL,dC,FK];refine FI rfl ⟨b,g,_,8,rfl,W8,by lia,by decide,by decide,?_⟩;rintro _ h9 ⟨word,rfl,okw⟩ o9 W9;exact fin _ word h9 rfl okw (o48.trans (Off.three o9)) ((o9.at2 nr.1.symm nr.2.symm).trans h8r) (W9.mono (by lia))
   . exact Gy (b:=((j:Int)==3)) h3 (fin _ word h8 rfl okw o48 h8r (W8.mono (by lia)))
 . rintro _ h4 ⟨ts,y4,y5,y6,y7,y8,y9,rfl,o4,lt,W4,h4r,nd,l1,ok⟩;simp only[Dl] at lt W4;dsimp only[FP,FY,JM,FL,FK];refine FI (d:= .ref r) rfl ?_;simp only[KP,GW,seqL,h4r,LF,JI];refine⟨by lia,λms mp mso=>⟨cut h4 r,Le.cut,q _ _ ⟨ms,rfl,Oq mso (mp.nodup_iff.mpr nd),λf hf=>ok f (mp.mem_iff.mp hf),by rw[mp.length_eq];exact l1,by rw[mp.length_eq];lia⟩ (o4.cut hr0) ((W4.cut nr.1 nr.2).mono (by lia))⟩⟩)
theorem d5:Ge p r5:=Gk Gi (by walk_at "x3") (by walk_at "b1") "@ei1g2ba0bdcei2)dKdg2ba0bdcenGa1dfhdmei3g2ba0bdcenGa1dfi3oKoKa3dg2ba0bdcdg2ba0bdcmfhKa2$a3)Yddd" (by
 rintro ds h k e ⟨b,g,n,rfl,W,hn,q⟩;refine FX ?_;dsimp only[FJ,dC,F_,FV,FL,FK,FM,FP,Gw,sz,Gh,Hu,Gc,Gj];refine FI rfl (G5 W (by lia) (by decide) (by decide) λpick h1 p0 p1 o1 W1=>?_);refine FX ?_;dsimp only[FJ,dC,F_,FV,FL,FK,FM,FP,Gw,sz,Gh,Hu,Gc,Gj];refine FI rfl (G5 W1 (by lia) (by decide) (by decide) λc h2 c0 c1 o2 W2=>?_);have o02:=o1.trans o2;refine⟨⟨by decide,Ij (by lia) (by lia)⟩,?_⟩;refine Ii ?_;dsimp only[FJ,dC,F_,FV,FL,FK,FM,FP,Gw,sz,Gh,Hu,Gc,Gj];refine FI rfl ?_;have fin:∀(m:Int)h3,0<=m->Off [b,g] h h3->Wl h3 b g (n+5)->(FP (FJ Ik (FN 2) (FJ IH (FN 3) (FJ HH (FJ Hh (dC (.int 10)) (dC (.int 15))) (dC (.int 1000)))))) (HR k e) [some (.ref b),some (.int pick),some (.int (1 - 2*c)),some (.int m)] h3:=by
  intro m h3 m0 o3 W3;dsimp only[FJ,dC,F_,FV,FL,FK,FM,FP,Gw,sz,Gh,Hu,Gc,Gj];have OE:(10:Int)^(15:Int).toNat=1000000000000000:=by decide
  refine FI rfl (FI rfl ⟨⟨by decide,by decide,by decide⟩,(by show(0:Int)<10^(15:Int).toNat - 1000;decide),?_⟩);dsimp only;rw[OE];have y0:=BN m (show(1000000000000000 - 1000:Int)≠0 by decide);have y1:=B0 m (show(0:Int)<1000000000000000 - 1000 by decide);generalize m%(1000000000000000 - 1000)=y at*;have hc:c=0\/c=1:=by lia
  refine⟨⟨Ij (by lia) (by lia),Ij (by lia) (by lia)⟩,Gb (q _ h3 ⟨_,rfl,?_,?_⟩ o3 W3)⟩
  all_goals
   rcases hc with rfl | rfl
   all_goals lia
 refine GZ ?_;rcases Az (pick==0) with hp | hp
 . exact FZ (b:=(pick==0)) hp (Gb (q _ h2 ⟨0,rfl,by decide,by decide⟩ o02 (W2.mono (by lia))))
 . refine Gy (b:=(pick==0)) hp ?_;dsimp only[GY];refine FX ?_;dsimp only[FJ,dC,F_,FV,FL,FK,FM,FP,Gw,sz,Gh,Hu,Gc,Gj,GY];refine FI rfl (G5 W2 (by lia) (by decide) (by decide) λm h3 m0 m1 o3 W3=>?_);refine Ii ?_;dsimp only[FJ,dC,F_,FV,FL,FK,FM,FP,Gw,sz,Gh,Hu,Gc,Gj,GY];refine FI rfl (GZ ?_);rcases Az (pick==2) with hp2 | hp2
   rotate_left
   . exact Gy (b:=(pick==2)) hp2 (fin m h3 m0 (o02.trans o3) (W3.mono (by lia)))
   . refine FZ (b:=(pick==2)) hp2 ?_;dsimp only[Go,FJ,dC,FV,FL,FK,FM];refine FI rfl ⟨⟨Ij (by lia) (by lia),by decide⟩,FI rfl (G5 W3 (by lia) (by decide) (by decide) λm2 h4 m20 m21 o4 W4=>?_)⟩;dsimp only[Gu];refine⟨⟨Ij (by lia) (by lia),by decide⟩,FI rfl (G5 W4 (by lia) (by decide) (by decide) λm3 h5 m30 m31 o5 W5=>?_)⟩;exact fin _ h5 (by lia) (o02.trans (o3.trans (o4.trans o5))) (W5.mono (by lia)))
theorem d6:Ge p r6:=Gk Gi (by walk_at "x3") (by walk_at "b1") "@ei1g2ba0bdcei2denGa1dfi2odg2ba0bdcmenGa1dfi2odKg2ba0bdcg2ba0bdcmfhDb9vb)YddYddb6b)YddYddbg5ba0cccba2c" (by
 rintro ds h k e ⟨b,g,n,rfl,W,hn,q⟩;have OE:(10:Int)^(15:Int).toNat=1000000000000000:=by decide
 have e13:(10:Int)^(13:Int).toNat=10000000000000:=by decide
 refine FX ?_;dsimp only[FJ,dC,F_,FV,FL,FK,FM,FP,Gw,sz,Gh,Hu,Gc,Gj,GY];refine FI rfl (G5 W (by lia) (by decide) (by decide) λpick h1 p0 p1 o1 W1=>?_);refine FX ?_;dsimp only[FJ,dC,F_,FV,FL,FK,FM,FP,Gw,sz,Gh,Hu,Gc,Gj,GY];have fin:∀(s:Int)h3,1<=s->s<=10^10->Off [b,g] h h3->Wl h3 b g (n+4)->(FP (Gw (FL (Gh Jd (FL (FJ HH (FJ Hh (dC (.int 10)) (dC (.int 13))) (FJ Hh (dC (.int 10)) (dC (.int 15)))) (FL (Gh II (FL (FJ HH (FJ Hh (dC (.int 10)) (dC (.int 15))) (FJ Hh (dC (.int 10)) (dC (.int 13)))) (FL (FV NK (FL (FN 0) FK)) FK))) FK))) (FL (FN 2) FK)))) (HR k e) [some (.ref b),some (.int pick),some (.int s)] h3:=by intro s h3 s0 s1 o3 W3;dsimp only[FJ,dC,F_,FV,FL,FK,FM,FP,Gw,sz,Gh,Hu,Gc,Gj,GY];refine⟨⟨by decide,by decide,by decide⟩,⟨by decide,by decide,by decide⟩,?_⟩;refine⟨⟨by decide,by decide,by decide⟩,⟨by decide,by decide,by decide⟩,?_⟩;dsimp only[HH,HV];refine FI rfl ⟨b,g,_,rfl,W3,by lia,?_⟩;rintro _ h4 ⟨i,rfl,i0,i1⟩ o4 W4;dsimp only[II,Jd,M_];exact FI rfl (Gb (q _ h4 ⟨_,s,rfl,s0,s1⟩ (o3.trans o4) (W4.mono (by lia))))
 have fin2:∀(s:Int)h2,1<=s->s<=1000->Off [b,g] h h2->Wl h2 b g (n+2)->(GA (G4 (F_ (FJ (Ip false) (FN 1) (dC (.int 3)))) (Go (FJ Gu (dC (.int 1)) (FJ Ik (FV LB (FL (FN 0) (FL (dC (.int 100000)) FK))) (FV LB (FL (FN 0) (FL (dC (.int 100000)) FK))))) (FM 2)) GY) (FP (Gw (FL (Gh Jd (FL (FJ HH (FJ Hh (dC (.int 10)) (dC (.int 13))) (FJ Hh (dC (.int 10)) (dC (.int 15)))) (FL (Gh II (FL (FJ HH (FJ Hh (dC (.int 10)) (dC (.int 15))) (FJ Hh (dC (.int 10)) (dC (.int 13)))) (FL (FV NK (FL (FN 0) FK)) FK))) FK))) (FL (FN 2) FK))))) (HR k e) [some (.ref b),some (.int pick),some (.int s)] h2:=by
  intro s h2 s0 s1 o2 W2;refine Ii ?_;dsimp only[FJ,dC,F_,FV,FL,FK,FM,FP,Gw,sz,Gh,Hu,Gc,Gj,GY];refine FI rfl (GZ ?_);rcases Az (pick==3) with hp2 | hp2
  rotate_left
  . exact Gy (b:=(pick==3)) hp2 (fin s h2 s0 (by lia) o2 (W2.mono (by lia)))
  . refine FZ (b:=(pick==3)) hp2 ?_;dsimp only[Go,FJ,dC,FV,FL,FK,FM];refine FI rfl (G5 W2 (by lia) (by decide) (by decide) λm2 h4 m20 m21 o4 W4=>?_);refine FI rfl (G5 W4 (by lia) (by decide) (by decide) λm3 h5 m30 m31 o5 W5=>?_);have y1:m2*m3<=99999*99999:=CT (by lia) (by lia) (by lia) (by lia);have y0:0<=m2*m3:=Ek (by lia) (by lia);refine⟨⟨Ij (by lia) (by lia),Ij (by lia) (by lia)⟩,?_⟩;exact fin _ h5 (by lia) (by lia) (o2.trans (o4.trans o5)) (W5.mono (by lia))
 refine Ii ?_;dsimp only[FJ,dC,F_,FV,FL,FK,FM,FP,Gw,sz,Gh,Hu,Gc,Gj,GY];refine FI rfl (GZ ?_);rcases Az (pick==2) with hp | hp
 rotate_left
 . exact Gy (b:=(pick==2)) hp (fin2 1 h1 (by decide) (by decide) o1 (W1.mono (by lia)))
 . refine FZ (b:=(pick==2)) hp ?_;dsimp only[Go,FJ,dC,FV,FL,FK,FM];refine FI rfl (G5 W1 (by lia) (by decide) (by decide) λm h3 m0 m1 o3 W3=>?_);exact fin2 _ h3 (by lia) (by lia) (o1.trans o3) (W3.mono (by lia)))
theorem d7:Ge p r7:=Gk Gi (by walk_at "x5") (by walk_at "b3") "@ei3g2ba0bdcei4oja1dKja1dg2ba0ba2cei5)oa4Kja1dodg2ba0ba2cdenGa3dfhDbubucmenGa3dfhDbuba5cmfh&Ga3dDba4bucDba4ba5c" (by
 rintro ds h k e ⟨b,g,n,wide,gr,rfl,W,hn,⟨lo,siz,rfl,s1,s2⟩,w1,w2,q⟩;refine FX ?_;dsimp only[FJ,dC,F_,FV,FL,FK,FM,FP,Gw,sz,Gh,Hu,Gc,Gj,GY];refine FI rfl (G5 W (by lia) (by decide) (by decide) λpick h1 p0 p1 o1 W1=>?_);refine FX ?_;dsimp only[FJ,dC,F_,FV,FL,FK,FM,FP,Gw,sz,Gh,Hu,Gc,Gj,GY];refine FI rfl (Jf (i:=0) rfl (FI rfl (Jf (i:=1) rfl (FI rfl (FI rfl (G5 W1 (by lia) (by lia) (by lia) λa h2 a0 a1 o2 W2=>?_))))));have sa1:siz*a<=10^10*100:=CT (by lia) (by lia) (by lia) (by decide);have sa0:0<=siz*a:=Ek (by lia) (by lia);refine⟨⟨Ij (by lia) (by lia),Ij (by lia) (by lia)⟩,?_⟩;dsimp only[Gu];refine FX ?_;dsimp only[FJ,dC,F_,FV,FL,FK,FM,FP,Gw,sz,Gh,Hu,Gc,Gj,GY];refine FI rfl (FI rfl (Jf (i:=1) rfl (FI rfl (FI rfl (G5 W2 (by lia) (by lia) (by lia) λc h3 c0 c1 o3 W3=>?_)))));have sc1:siz*(1+c)<=10^10*100:=CT (by lia) (by lia) (by lia) (by decide);have sc0:1*1<=siz*(1+c):=CT (by lia) (by lia) (by lia) (by lia);dsimp only[Gu];refine⟨⟨Ij (by lia) (by lia),Ij (by lia) (by lia)⟩,?_⟩;dsimp only;have fin:=λlo' hi'(hl:Kv lo' hi'=true)=>Gb (k:=k) (q (.tup [oD lo',oD hi']) h3 ⟨lo',hi',rfl,hl⟩ (o1.trans (o2.trans o3)) (W3.mono (by lia)));refine Ii ?_;dsimp only[FJ,dC,F_,FV,FL,FK,FM,FP,Gw,sz,Gh,Hu,Gc,Gj,GY];refine FI rfl (GZ ?_);rcases Az (pick==0) with hp | hp
 . exact FZ (b:=(pick==0)) hp (fin none none rfl)
 refine Gy (b:=(pick==0)) hp ?_;refine Ii ?_;dsimp only[FJ,dC,F_,FV,FL,FK,FM,FP,Gw,sz,Gh,Hu,Gc,Gj,GY];refine FI rfl (GZ ?_);rcases Az (pick==1) with hp | hp
 . exact FZ (b:=(pick==1)) hp (fin none (some _) rfl)
 refine Gy (b:=(pick==1)) hp ?_
 try dsimp only[FJ,dC,F_,FV,FL,FK,FM,FP,Gw,sz,Gh,Hu,Gc,Gj,GY]
 refine FI rfl (GZ ?_);rcases Az (pick==2) with hp | hp
 . exact FZ (b:=(pick==2)) hp (fin (some _) none rfl)
 refine Gy (b:=(pick==2)) hp ?_;exact fin (some _) (some _) (by unfold Kv;simp;lia))
theorem d8:Ge p r8:=Gk Gi (by walk_at "x6") (by walk_at "b4") "@ei4%wceyla1p5fn9ig2ba0bdcdePg7ba0ba2ba3cT2sp6sp7SfF+a4bDba5ba6ba7ccmfh9jba4c" (by
 rintro ds h k e ⟨b,g,n,wide,gr,fs,rfl,W,hn,okf,okg,w1,w2,q⟩;refine FX λp hp=>?_;dsimp only[FM];have np:=W.free hp;refine HE (d:= .lst (fs.map .str)) rfl (Hc ?_);refine Hf (λds σ hh=>∃f1 f2 w o5 o6 o7,fs=f1++f2/\ds=f2.map D.str/\σ=[some (.ref b),some (.lst (fs.map .str)),some gr,some (.int wide),some (.ref p),o5,o6,o7]/\hh p=some (.lst (w.map pD))/\(∀q∈w,q.1∈f1/\FieldOk q.1/\Kv q.2.1 q.2.2=true)/\(w.map (·.1)).Pairwise Hz/\w.length<=f1.length/\Off [b,g,p] h hh/\Wl hh b g (n+4*f1.length)) (λ_ _ _ _=>True.intro) ?_ ?_ _ ⟨[],fs,[],none,none,none,rfl,rfl,rfl,put_same,(λ_ z=>by cases z),.nil,Al _,(Off.refl _ _).put (by simp),(W.put hp).mono (by simp)⟩
 . rintro _ _ _ hh N ⟨f1,_ | ⟨f,f2⟩,w,o5,o6,o7,ef,ed,rfl,hw,okw,asc,lw,of,W1⟩ hN
   . cases ed
   cases ed;have l1:f1.length<=10:=by have:=okf.hi;rw[ef,Ah] at this;lia
   have okfe:FieldOk f:=okf.ok f (by rw[ef];simp);have gt:∀x∈f1,Hz x f:=λx hx=>by have:=okf.asc;rw[ef,Ea] at this;exact this.2.2 x hx f (.head _)
   dsimp only[FM,G4,F_,FJ,FV,FL,dC,FK];refine FI rfl (G5 W1 (by lia) (by decide) (by decide) λr h2 r0 r1 o2 W2=>?_);have o02:Off [b,g,p] h h2:=of.trans (Off.three o2);have h2p:h2 p=some (.lst (w.map pD)):=(o2.at2 np.1.symm np.2.symm).trans hw;rcases Az (decide ((0:Int)<r)) with hp0 | hp0
   . refine FZ (b:=decide ((0:Int)<r)) hp0 ?_;refine FX ?_;dsimp only[FV,FL,FK];refine FI rfl (FI rfl (FI rfl ⟨b,g,_,wide,gr,rfl,W2,by lia,okg,w1,w2,?_⟩));rintro _ h3 ⟨lo,hi,rfl,le⟩ o3 W3;refine⟨rfl,?_⟩;have h3p:h3 p=some (.lst (w.map pD)):=(o3.at2 np.1.symm np.2.symm).trans h2p;dsimp only[Lz,FM,Lq,Iu,Ir,FL,FK,Gw,sz];refine FI (i:=4) (d:= .ref p) rfl ?_;refine⟨by simp only[IR,h3p],?_⟩;refine FI (i:=5) rfl (FI (i:=6) rfl (FI (i:=7) rfl (JT h3p ⟨?_,hN _ _ ⟨f1++[f],f2,w++[(f,lo,hi)],_,_,_,by simp[ef],rfl,rfl,?_,?_,?_,?_,(o02.trans (Off.three o3)).put (by simp),?_⟩⟩)))
     . rw[Ac,sizeLine_eq];lia
     . rw[put_same,AS];rfl
     . intro q hq;rcases Aq.mp hq with z | z
       . exact⟨A1 _ (okw q z).1,(okw q z).2⟩
       . rw[Af.mp z];exact⟨by simp,okfe,le⟩
     . rw[AS,Ea];refine⟨asc,by simp,λx hx y hy=>?_⟩;obtain⟨q,hq,rfl⟩:=AG.mp hx;have:y=f:=by simpa using hy
       rw[this];exact gt _ (okw q hq).1
     . rw[Ah,Ah];simpa using lw
     . exact(W3.cg (FR np.1) (FR np.2)).mono (by rw[Ah];simp;lia)
   . refine Gy (b:=decide ((0:Int)<r)) hp0 ?_;exact hN _ _ ⟨f1++[f],f2,w,_,_,_,by simp[ef],rfl,rfl,h2p,λq z=>⟨A1 _ (okw q z).1,(okw q z).2⟩,asc,by rw[Ah];lia,o02,W2.mono (by rw[Ah];simp;lia)⟩
 . rintro _ hh ⟨f1,f2,w,o5,o6,o7,ef,ed,rfl,hw,okw,asc,lw,of,W1⟩;have e2:f2=[]:=by cases f2 with | nil=>rfl | cons _ _=>cases ed
   subst e2;rw[A9] at ef;subst ef;have l1:=okf.hi;dsimp only[FP,Gh,FL,FK];refine FI (d:= .ref p) rfl ?_;simp only[KQ,seqD,seqL,hw];exact⟨cut hh p,Le.cut,q _ _ ⟨w,rfl,by lia,λq hq=>(okw q hq).2,asc⟩ (of.cut hp) ((W1.cut np.1 np.2).mono (by lia))⟩)
theorem d9:Ge p r9:=Gk Gi (by walk_at "x7") (by walk_at "b5") "@ei5%wceyZba4cp6ei7g2ba0bdcei8g8ba0ba1ba2ba3cenE<Oa5kwc;~a7dei9ja5g2ba0bvba5ccei:g2ba0bovba9cdcfi8&Ga7da9o]a9VWa:]a9Woa:dVmfF+a5ba8cfh7a5" (by
 rintro ds h k e ⟨b,g,n,wide,gr,fs,many,rfl,W,hn,okf,okg,w1,w2,m63,q⟩;refine FX λp hp=>?_;dsimp only[FM];have np:=W.free hp;refine KV ?_;dsimp only[IT,FL,FK];refine FI rfl ⟨⟨by lia,by lia⟩,?_⟩;refine Hf (λds σ hh=>∃(ws:List (List WP))(o6 o7 o8 o9 o10:Option D),ws.length+ds.length=many/\(∀w∈ws,WOk w)/\σ=[some (.ref b),some (.lst (fs.map .str)),some gr,some (.int wide),some (.int many),some (.ref p),o6,o7,o8,o9,o10]/\hh p=some (.lst (ws.map wD))/\Off [b,g,p] h hh/\Wl hh b g (n+60*ws.length)) (λ_ _ _ _=>True.intro) ?_ ?_ _ ⟨[],none,none,none,none,none,by simp,(λ_ z=>by cases z),rfl,put_same,(Off.refl _ _).put (by simp),(W.put hp).mono (by simp)⟩
 . rintro d ds _ hh N ⟨ws,o6,o7,o8,o9,o10,lw,okw,rfl,hhp,oo,WW⟩ hN;rw[Ao] at lw;dsimp only[FM];refine FX ?_;dsimp only[FV,FL,dC,FK,FM];refine FI rfl (G5 WW (by lia) (by decide) (by decide) λpick h1 p0 p1 o1 W1=>?_);refine FX ?_;dsimp only[FV,FL,dC,FK,FM];refine FI rfl (FI rfl (FI rfl (FI rfl ⟨b,g,_,wide,gr,fs,rfl,W1,by lia,okf,okg,w1,w2,?_⟩)));rintro _ h2 ⟨w,rfl,ow⟩ o2 W2;have h2p:h2 p=some (.lst (ws.map wD)):=(o2.at2 np.1.symm np.2.symm).trans ((o1.at2 np.1.symm np.2.symm).trans hhp);have o02:=oo.trans (Off.three (p:=p) (o1.trans o2));have fin:∀(E':DEnds)(o9 o10:Option D)(w:List WP)h3,E'.nx=N->WOk w->Off [b,g,p] h h3->h3 p=some (.lst (ws.map wD))->Wl h3 b g (n+60*ws.length+50)->Iu (Ir "list" JO (FN 5) (FL (FN 8) FK)) E' [some (.ref b),some (.lst (fs.map .str)),some gr,some (.int wide),some (.int many),some (.ref p),some d,some (.int pick),some (wD w),o9,o10] h3:=by
    intro E' o9 o10 w h3 eN ow o3 h3p W3;dsimp only[Iu,Ir,FL,FK];refine FI (d:= .ref p) rfl ⟨by simp only[IR,h3p],?_⟩;refine FI rfl (JT h3p ⟨by rw[Ac,sizeLine_eq];lia,?_⟩);rw[eN];exact hN _ _ ⟨ws++[w],_,_,_,_,_,by rw[Ah];simp;lia,λx hx=>(Aq.mp hx).elim (okw x) λz=>by rw[Af.mp z];exact ow,rfl,by rw[put_same,AS];rfl,o3.put (by simp),(W3.cg (FR np.1) (FR np.2)).mono (by rw[Ah];simp;lia)⟩
   refine Ii ?_;dsimp only[KA,F_,FJ,FY,FK,sz,dC];refine FI (d:= .ref p) rfl (VX okw (by simp only[GG,h2p]) ?_);cases ws with
   | nil=>exact fin _ _ _ w h2 rfl ow o02 h2p (W2.mono (by lia))
   | cons w0 wr=>
    have l62:(w0::wr).length<=62:=by lia
    refine FZ rfl ?_;refine FI rfl ?_;rcases Az (decide (pick<2)) with hp2 | hp2
    rotate_left
    . exact Gy (b:=decide (pick<2)) hp2 (fin _ _ _ w h2 rfl ow o02 h2p (W2.mono (by lia)))
    . refine FZ (b:=decide (pick<2)) hp2 ?_;refine FX ?_;dsimp only[FJ,FV,FL,Gh,FK];refine FI (d:= .ref p) rfl (FI rfl (FI (d:= .ref p) rfl ?_));simp only[GO,seqD,seqL,h2p];refine G5 W2 (by lia) (by rw[Ac,Ao];lia) (by rw[Ac];lia) λr h3 r0 r1 o3 W3=>?_;have h3p:h3 p=some (.lst ((w0::wr).map wD)):=(o3.at2 np.1.symm np.2.symm).trans h2p;rw[Ac] at r1;obtain⟨i,rfl⟩:∃i:Nat,r=(i:Int):=⟨r.toNat,by lia⟩;have hi:i<(w0::wr).length:=by lia
      have oko:=okw _ (AI hi);refine GI h3p (d:=wD ((w0::wr)[i])) (by rw[AB,Ap hi];rfl) ?_;generalize(w0::wr)[i]=old at oko;dsimp only[FM];refine FX ?_;dsimp only[FJ,FV,FL,Gh,dC,FK,FM];refine FI rfl (FI rfl ?_);have lo:=oko.len;refine TU ?_;dsimp only[Gu];refine G5 (many:=((old.map pD).length:Int)+1) W3 (by lia) (by rw[Ac];lia) (by rw[Ac];lia) λa h4 a0 a1 o4 W4=>?_;rw[Ac] at a1;obtain⟨j,rfl⟩:∃j:Nat,a=(j:Int):=⟨a.toNat,by lia⟩;have h4p:h4 p=some (.lst ((w0::wr).map wD)):=(o4.at2 np.1.symm np.2.symm).trans h3p;have o04:=o02.trans (Off.three (p:=p) (o3.trans o4));dsimp only[Go,Hu,F_,FJ,dC];refine FI rfl (GZ ?_);rcases Az (pick==0) with hp0 | hp0
      . exact FZ (b:=(pick==0)) hp0 (fin _ _ _ old h4 rfl oko o04 h4p (W4.mono (by lia)))
      . refine Gy (b:=(pick==0)) hp0 ?_;dsimp only[MS,Lk,Lj];refine FI (d:=wD old) rfl (FI rfl ?_);dsimp only;refine LK (FI (d:=wD old) rfl ?_);dsimp only[FJ,dC];refine FI rfl ?_;dsimp only[Gu];refine LK ?_;dsimp only[Gu];rw[R7,Y4,<-List.map_take,<-List.map_drop,<-AS];refine⟨by simp only[Ac,Cj,CY];rw[sizeLine_eq];lia,?_⟩;refine fin _ _ _ (old.take j++old.drop (j+1)) h4 rfl (oko.sub ?_) o04 h4p (W4.mono (by lia));have:(old.take j++old.drop (j+1)).Sublist (old.take j++old.drop j):=List.Sublist.append (List.Sublist.refl _) (by have z:=List.drop_sublist 1 (old.drop j);rw[List.drop_drop] at z;simpa [Nat.add_comm] using z);rw[List.take_append_drop] at this;exact this
 . rintro _ hh ⟨ws,o6,o7,o8,o9,o10,lw,okw,rfl,hhp,oo,WW⟩;simp only[Dl,Nat.add_zero] at lw;dsimp only[FP,Mz];refine FI (d:= .ref p) rfl ?_;simp only[hhp];exact Gb (q _ _ ⟨ws,rfl,okw,by lia⟩ (oo.cut hp) ((WW.cut np.1 np.2).mono (by lia))))
theorem d10:Ge p Tq:=Gk Gi (by walk_at "x7") (by walk_at "b5") "@ei5%wceylg9ba0ba1ba2ba3ba4cp6fnRa6a5fF+a5ba6cmfh7a5" (by
 rintro ds h k e ⟨b,g,n,wide,gr,fs,many,rfl,W,hn,okf,okg,w1,w2,m1,m63,q⟩;refine FX λp hp=>?_;dsimp only[FM];have np:=W.free hp;refine KV ?_;dsimp only[JU,FV,FL,FK];refine FI rfl (FI rfl (FI rfl (FI rfl (FI rfl ⟨b,g,n,wide,gr,fs,many,rfl,W.put hp,hn,okf,okg,w1,w2,m63,?_⟩))));rintro _ h1 ⟨ws,rfl,okw,lw⟩ o1 W1;have h1p:h1 p=some (.lst []):=(o1.at2 np.1.symm np.2.symm).trans put_same;have o01:Off [b,g,p] h h1:=((Off.refl _ _).put (by simp)).trans (Off.three o1);refine Hc ?_;refine Hf (λds σ hh=>∃(v2:List (List WP))(us:List (List WP))(o6:Option D),ds=v2.map wD/\(∀w∈v2,WOk w)/\us.length+v2.length<=63/\σ=[some (.ref b),some (.lst (fs.map .str)),some gr,some (.int wide),some (.int many),some (.ref p),o6]/\hh p=some (.lst (us.map wD))/\us.Nodup/\(∀w∈us,WOk w)/\Off [b,g,p] h hh/\Wl hh b g (n+5000)) (λ_ _ _ _=>True.intro) ?_ ?_ _ ⟨ws,[],none,rfl,okw,by simp;lia,rfl,h1p,.nil,(λ_ z=>by cases z),o01,W1⟩
 . rintro _ _ _ hh N ⟨_ | ⟨v,v2⟩,us,o6,ed,okv,lu,rfl,hhp,nd,oku,oo,WW⟩ hN
   . cases ed
   cases ed;rw[Ao] at lu;dsimp only[FM,G4,F_,FJ];refine FI rfl (FI (d:= .ref p) rfl (Pe hhp oku (okv v (.head _)) ?_));by_cases m:v∈us
   . rw[decide_eq_true m];exact hN _ _ ⟨v2,us,_,rfl,λw z=>okv w (.tail _ z),by lia,rfl,hhp,nd,oku,oo,WW⟩
   . rw[decide_eq_false m];refine FZ rfl ?_;dsimp only[Iu,Ir,FL,FK];refine FI (d:= .ref p) rfl ⟨by simp only[IR,hhp],?_⟩;refine FI rfl (JT hhp ⟨by rw[Ac,sizeLine_eq];lia,hN _ _ ⟨v2,us++[v],_,rfl,λw z=>okv w (.tail _ z),by rw[Ah];simp;lia,rfl,by rw[put_same,AS];rfl,?_,λw hw=>(Aq.mp hw).elim (oku w) λz=>by rw[Af.mp z];exact okv v (.head _),oo.put (by simp),WW.cg (FR np.1) (FR np.2)⟩⟩);exact AZ.mpr ⟨nd,by simp,λa ha b hb=>by rw[Af.mp hb];exact λz=>m (z ▸ ha)⟩
 . rintro _ hh ⟨v2,us,o6,ed,okv,lu,rfl,hhp,nd,oku,oo,WW⟩;dsimp only[FP,Mz];refine FI (d:= .ref p) rfl ?_;simp only[hhp];exact Gb (q _ _ ⟨us,rfl,nd,by lia,oku⟩ (oo.cut hp) (WW.cut np.1 np.2)))
theorem d11:Ge p Tp:=Gk Gi (by walk_at "x4") (by walk_at "b2") "@eC2Lei3%wb9hLbkxk,well,signs;_02;Zbodg2ba0bdccq0Mja2N2ba1bdccceyZbg2ba0ba1ccp4ei5g2ba0bdcei6ja3g2ba0bvba3ccei7ja2g2ba0bdcei8g2ba0bvba6ccei9:jkwboa7a6boa6a7boo:a6VWa8a7:a6Woa8dVba7ca5VWdfnRa9a3fF+a3ba9cmfh7a3" (by
 rintro ds h k e ⟨b,g,n,many,rfl,W,hn,m1,m6,q⟩;refine FX ?_;dsimp only[dC,FM];refine FX ?_;dsimp only[Iq,Ir,FV,FL,dC,FK,sz,FY,Hq,IT,FJ];refine⟨rfl,?_⟩;refine FI rfl (G5 W (by lia) (by decide) (by decide) λr0 h1 r00 r01 o1 W1=>?_);dsimp only[Gu];refine⟨⟨by lia,by lia⟩,?_⟩;refine Lf (λds σ acc hh=>∃cs v,acc=cs.map (λc:Nat=>D.str ⟨#[c]⟩)/\(cs.length:Int)+ds.length=1+r0/\(∀c∈cs,JG c)/\σ=[v,some (.ref b),some (.str "abcdefghijklmnopqrstuvwxyz0123456789")]/\Off [b,g] h hh/\Wl hh b g (n+1+cs.length)) (λ_ _ _ _ _=>True.intro) ?_ ?_ _ ⟨[],none,rfl,by simp;lia,(λ_ z=>by cases z),rfl,o1,W1.mono (by simp)⟩
 . rintro d ds _ _ hh N ⟨cs,v,rfl,hl,ok,rfl,oo,WW⟩ hN;unfold Ho;dsimp only[FM,HL,FJ,FV,FL,dC,FK,cond_true];rw[Ao] at hl;refine FI rfl (FI rfl (G5 WW (by lia) (by decide) (by decide) λj h2 j0 j1 o2 W2=>?_));obtain⟨i,c,rfl,hc,okc⟩:=PD j0 j1;refine JL (by show 36<=An;rw[sizeLine_eq];lia) (i:=i) (c:=c) hc ?_;exact hN _ _ _ ⟨cs++[c],_,by simp,by rw[Ah];simp;lia,λx hx=>(Aq.mp hx).elim (ok x) λz=>by rw[Af.mp z];exact okc,rfl,oo.trans o2,W2.mono (by rw[Ah];simp;lia)⟩
 rintro _ _ h1 ⟨cs,v,rfl,hl,okcs,rfl,o1,W1⟩;simp only[Dl] at hl;simp only[Mo,seqL,Q9];refine⟨Qe cs (by lia),?_⟩;have ok0:HolderOk (Dp "" (cs.map λc=>(⟨#[c]⟩:Str))):=zec (by lia) (by lia) okcs;generalize Dp "" (cs.map λc=>(⟨#[c]⟩:Str))=x0 at ok0;intro r hr;have nr:=W1.free hr;have hr0:h r=none:=(o1.at2 nr.1.symm nr.2.symm) ▸ hr;have W2:=W1.put (o:= .lst [.str x0]) hr;have o2:Off [b,g,r] h (put h1 r (.lst [.str x0])):=(Off.three o1).put (by simp);have h2r:put h1 r (.lst [.str x0]) r=some (.lst ([x0].map .str)):=put_same;generalize put h1 r (.lst [.str x0])=h2 at W2 o2 h2r;dsimp only[FM];refine KV ?_;dsimp only[IT,FV,FL,FK];refine FI rfl (FI rfl (G5 W2 (by lia) (by lia) (by lia) λc h3 c0 c1 o3 W3=>⟨⟨by lia,by lia⟩,?_⟩));have h3r:=(o3.at2 nr.1.symm nr.2.symm).trans h2r;refine Hf (λds σ hh=>∃(ts:List Str)(y4 y5 y6 y7 y8 y9:Option D),σ=[some (.ref b),some (.int many),some (.str "abcdefghijklmnopqrstuvwxyz0123456789"),some (.ref r),y4,y5,y6,y7,y8,y9]/\Off [b,g,r] h hh/\(ts.length:Int)+ds.length<=1+c/\Wl hh b g (n+130 - 20*ds.length)/\hh r=some (.lst (ts.map .str))/\1<=ts.length/\∀t∈ts,HolderOk t) (λ_ _ _ _=>True.intro) ?_ ?_ _ ⟨[x0],none,none,none,none,none,none,rfl,o2.trans (Off.three o3),by simp;lia,W3.mono (by simp;lia),h3r,by simp,λt ht=>by rw[Af.mp ht];exact ok0⟩
 . rintro d ds _ h4 N ⟨ts,y4,y5,y6,y7,y8,y9,rfl,o4,lt,W4,h4r,l1,ok⟩ hN;rw[Ao] at lt W4;dsimp only[FM];refine FX ?_;dsimp only[FV,FL,dC,FK,FM];refine FI rfl (G5 W4 (by lia) (by decide) (by decide) λpick h5 p0 p1 o5 W5=>?_);have h5r:=(o5.at2 nr.1.symm nr.2.symm).trans h4r;refine FX ?_;dsimp only[FJ,FV,FL,Gh,FK];refine FI (d:= .ref r) rfl (FI rfl (FI (d:= .ref r) rfl ?_));simp only[GO,seqD,seqL,h5r];refine G5 W5 (by lia) (by rw[Ac];lia) (by rw[Ac];lia) λj h6 j0 j1 o6 W6=>?_;have h6r:=(o6.at2 nr.1.symm nr.2.symm).trans h5r;rw[Ac] at j1;obtain⟨i,rfl⟩:∃i:Nat,j=(i:Int):=⟨j.toNat,by lia⟩;have hi:i<ts.length:=by lia
   have okf:=ok _ (AI hi);refine GI h6r (d:= .str ts[i]) (by rw[AB,Ap hi];rfl) ?_;generalize ts[i]=first at okf
   dsimp only[FM];refine FX ?_;dsimp only[FJ,FV,FL,dC,FK];refine FI rfl (FI rfl (G5 W6 (by lia) (by decide) (by decide) λj h7 j0 j1 o7 W7=>?_));obtain⟨i2,c2,rfl,hc,okc⟩:=PD j0 j1;have h7r:=(o7.at2 nr.1.symm nr.2.symm).trans h6r;refine JL (by show 36<=An;rw[sizeLine_eq];lia) hc ?_;have okl:HolderOk (⟨#[c2]⟩:Str):=⟨by show 1<=1;decide,by show 1<=15;decide,λc' hc'=>by
    have:c'=c2:=by simpa using hc'
    rw[this];exact okc⟩
   generalize(⟨#[c2]⟩:Str)=letter at okl;have f1:=okf.lo;have f8:=okf.hi;have g1:=okl.lo;have g8:=okl.hi;have sz:(100:Nat)<=An:=by rw[sizeLine_eq];lia
   dsimp only[FM];refine FX ?_;dsimp only[FV,FL,Gh,FK,FM];refine FI rfl (FI rfl ⟨by lia,G5 W7 (by lia) (by lia) (by lia) λat' h8 a0 a1 o8 W8=>?_⟩);have h8r:=(o8.at2 nr.1.symm nr.2.symm).trans h7r;have o48:=o4.trans (Off.three (p:=r) (o5.trans (o6.trans (o7.trans o8))));have len2:∀x y:Str,(x++y).length=x.length+y.length:=λx y=>by show(x.cps++y.cps).size=_;rw[Array.size_append];rfl
   have mem2:∀(x y:Str)(c:Nat),c∈(x++y).cps.toList->c∈x.cps.toList\/c∈y.cps.toList:=λx y c hc=>by have:c∈(x.cps++y.cps).toList:=hc;rw[FD] at this;exact Aq.mp this
   refine FX ?_;dsimp only[K8,FJ,FY,Lk,Lj,dC];refine FI rfl (FI rfl ⟨by lia,FI rfl (FI rfl ⟨by lia,FI rfl (FI rfl ⟨by lia,λz1 a1' _ a3 _=>?_⟩)⟩)⟩);refine FI rfl ⟨by lia,FI rfl (FI rfl ⟨by lia,λz2 b1 _ b3 _=>?_⟩)⟩;refine⟨by rw[len2];lia,FI rfl (FI rfl ?_)⟩;obtain⟨j,rfl⟩:∃j:Nat,pick=(j:Int):=⟨pick.toNat,by lia⟩;obtain⟨V,hV,w1,w100,wl'⟩:∃V:Str,[D.str (letter++first),.str (first++letter),.str (z1++letter++z2),.str letter][j]?=some (.str V)/\1<=V.length/\V.length<=100/\∀c∈V.cps.toList,JG c:=by
    have:j=0\/j=1\/j=2\/j=3:=by lia
    rcases this with rfl | rfl | rfl | rfl
    . refine⟨_,rfl,by rw[len2];lia,by rw[len2];lia,λc hc=>?_⟩;rcases mem2 _ _ c hc with z | z
      . exact okl.sg c z
      . exact okf.sg c z
    . refine⟨_,rfl,by rw[len2];lia,by rw[len2];lia,λc hc=>?_⟩;rcases mem2 _ _ c hc with z | z
      . exact okf.sg c z
      . exact okl.sg c z
    . refine⟨_,rfl,by rw[len2,len2];lia,by rw[len2,len2];lia,λc hc=>?_⟩;rcases mem2 _ _ c hc with z | z
      . rcases mem2 _ _ c z with z | z
        . exact okf.sg c (a3 c z)
        . exact okl.sg c z
      . exact okf.sg c (b3 c z)
    . exact⟨_,rfl,g1,by lia,okl.sg⟩
   refine Hj hV ⟨by lia,λword v1 v2 v3 v4=>?_⟩;have okw:HolderOk word:=⟨v4 15 rfl rfl (by decide) w1,by have:=v2 15 rfl (by decide);lia,λc hc=>wl' c (v3 c hc)⟩;dsimp only[FM,G4,F_,FJ,GY];refine FI rfl (FI (d:= .ref r) rfl (Pd h8r ?_));by_cases hm:word∈ts
   . rw[decide_eq_true hm];exact hN _ _ ⟨ts,_,_,_,_,_,_,rfl,o48,by lia,W8.mono (by lia),h8r,l1,ok⟩
   . rw[decide_eq_false hm];refine FZ rfl ?_;dsimp only[Iu,Ir,FL,FK];refine FI (d:= .ref r) rfl ⟨by simp only[IR,h8r],?_⟩;refine FI rfl (JT h8r ⟨by rw[Ac,sizeLine_eq];lia,?_⟩);exact hN _ _ ⟨ts++[word],_,_,_,_,_,_,rfl,o48.put (by simp),by rw[Ah];simp;lia,(W8.cg (FR nr.1) (FR nr.2)).mono (by lia),by rw[put_same,AS];rfl,by rw[Ah];lia,λt ht=>(Aq.mp ht).elim (ok t) λz=>by rw[Af.mp z];exact okw⟩
 . rintro _ h4 ⟨ts,y4,y5,y6,y7,y8,y9,rfl,o4,lt,W4,h4r,l1,ok⟩;simp only[Dl] at lt W4;dsimp only[FP,Mz];refine FI (d:= .ref r) rfl ?_;simp only[h4r];exact Gb (q _ _ ⟨ts,rfl,ok,l1,by lia⟩ (o4.cut hr0) ((W4.cut nr.1 nr.2).mono (by lia))))
theorem d12:Ge p Tj:=Gk Gi (by intro ds h k e q;match ds,q with | [.ref _],_=>rfl) (by walk_at "b1") "@e^0a0=f^0a0=" (by
 intro ds h k e q
 match ds,q with
 | [.ref x],q=>
  obtain⟨e0,q⟩:=q;intro a ha;have xa:x≠a:=by rintro rfl;rw[ha] at e0;cases e0
  refine FI (d:= .ref x) rfl ?_;refine JA (fs:=[]) (by rw[FR xa];exact e0) ⟨by decide,λb hb=>?_⟩;have xb:x≠b:=by rintro rfl;rw[put_same] at hb;cases hb
  rw[FR (Be xb)] at hb;have ab:a≠b:=by rintro rfl;rw[put_same] at hb;cases hb
  rw[FR (Be ab)] at hb;refine FI (d:= .ref x) rfl ?_;refine JA (fs:=[("times",.ref a)]) (by rw[FR xb,put_same];rfl) ⟨by simp,?_⟩;refine Gb (q a b _ ha hb ab ((Dic.of ?_).eq λw=>?_) ((Dic.of ?_).eq λw=>?_) ?_ ?_)
  . rw[FR (Be xa),FR ab,FR (Be xa),put_same]
  . simp[tF]
  . rw[FR (Be xb),put_same]
  . simp[gF]
  . rw[put_same];rfl
  . intro c hc;simp only[Ag,AC,or_false,not_or] at hc;rw[FR hc.2.2,FR hc.2.1,FR hc.2.2,FR hc.1])
theorem d13:Ge p Tg:=Gk Gi (by intro ds h k e q;match ds,q with | [.ref _],_=>rfl) (by walk_at "b1") "@e^1a0_e^1a0=f^1a09k0<" (by
 intro ds h k e q
 match ds,q with
 | [.ref x],q=>
  obtain⟨e0,q⟩:=q;intro a ha;have xa:x≠a:=by rintro rfl;rw[ha] at e0;cases e0
  refine FI (d:= .ref x) rfl ?_;refine JA (fs:=[]) (by rw[FR xa];exact e0) ⟨by decide,λb hb=>?_⟩;have xb:x≠b:=by rintro rfl;rw[put_same] at hb;cases hb
  rw[FR (Be xb)] at hb;have ab:a≠b:=by rintro rfl;rw[put_same] at hb;cases hb
  rw[FR (Be ab)] at hb;refine FI (d:= .ref x) rfl ?_;refine JA (fs:=[("by_holder",.ref a)]) (by rw[FR xb,put_same];rfl) ⟨by simp,?_⟩;generalize eh1:put (put (put (put h a (.dct false [] [])) x _) b (.dct true [] [])) x _=h1;have h1x:h1 x=some (.ins "Shelf" [("by_holder",.ref a),("by_wish",.ref b)]):=by rw[<-eh1,put_same];rfl
  have h1a:h1 a=some (.dct false [] []):=by rw[<-eh1,FR xa.symm,FR ab,FR xa.symm,put_same]
  have h1b:h1 b=some (.dct true [] []):=by rw[<-eh1,FR xb.symm,put_same]
  have h1o:Off [a,b,x] h h1:=by rw[<-eh1];exact((((Off.refl _ _).put (by simp)).put (by simp)).put (by simp)).put (by simp)
  clear eh1;intro p hp;have px:x≠p:=by rintro rfl;rw[h1x] at hp;cases hp
  have pa:a≠p:=by rintro rfl;rw[h1a] at hp;cases hp
  have pb:b≠p:=by rintro rfl;rw[h1b] at hp;cases hp
  refine⟨put_same,λtm tp h2 ht hg tg dT dG self2 o2=>⟨rfl,?_⟩⟩;have ne:∀{c o},put h1 p (.ins "Pool" []) c=some o->tm≠c/\tp≠c:=λ{c o}z=>⟨(by rintro rfl;rw[ht] at z;cases z),(by rintro rfl;rw[hg] at z;cases z)⟩;have nx:=ne ((FR px).trans h1x);have na:=ne ((FR pa).trans h1a);have nb:=ne ((FR pb).trans h1b);have np:=ne (put_same (hd:=h1) (a:=p) (o:= .ins "Pool" []));have o2':∀c,c≠tm->c≠tp->c≠p->h2 c=h1 c:=λc n1 n2 n3=>(o2 c (by simp[n1,n2,n3])).trans (FR n3);have h2x:=(o2' x nx.1.symm nx.2.symm px).trans h1x;refine FI (d:= .ref x) rfl (JA h2x ⟨by simp,Gb ?_⟩);generalize eh3:put h2 x _=h3;have h3x:h3 x=some (.ins "Shelf" [("by_holder",.ref a),("by_wish",.ref b),("pool",.ref p)]):=by rw[<-eh3,put_same];rfl
  have h3o:∀c,c≠x->h3 c=h2 c:=λc n=>by rw[<-eh3,FR n]
  have h3a:h3 a=some (.dct false [] []):=(h3o a xa.symm).trans ((o2' a na.1.symm na.2.symm pa).trans h1a);have h3b:h3 b=some (.dct true [] []):=(h3o b xb.symm).trans ((o2' b nb.1.symm nb.2.symm pb).trans h1b);refine q ⟨x,a,b,p,tm,tp⟩ (λc=>if c=x then some .self else if c=a then some .bh else if c=b then some .bw else if c=p then some .pool else if c=tm then some .tm else if c=tp then some .tp else none) h3 rfl (λhs U nd hl uo=>?_) (λc hc cx=>?_) λc hc=>?_
  . have c0:∀w,Gs hs (λ_ _=>false) w=0:=λw=>by unfold Gs;simp
    refine⟨⟨h3x,by simp,by simp[px.symm,pa.symm,pb.symm],by simp[nx.1,na.1,nb.1,np.1],by simp[nx.2,na.2,nb.2,np.2,tg.symm],⟨by simp[xa.symm],λ_=>none,Dic.of h3a,λ_ _ _=>rfl,λ_ _ z=>by cases z⟩,⟨by simp[xb.symm,ab.symm],λ_=>none,Dic.of h3b,λ_ _ _=>rfl,λ_ _ z=>by cases z⟩,λc hc=>?_⟩,⟨?_,((dT.cg (h3o _ nx.1)).eq λw=>by unfold tF;rw[c0]),dG.cg (h3o _ nx.2),tg,⟨.nil,λw=>?_⟩,λw z=>(z (c0 w)).elim⟩,uo,nd,hl,λ_ _ z=>by cases z⟩
    . by_cases c1:c=x
      . rw[c1];exact⟨_,h3x,λ_ z=>by cases z⟩
      by_cases c2:c=a
      . rw[c2];exact⟨_,h3a,λ_ z=>by cases z⟩
      by_cases c3:c=b
      . rw[c3];exact⟨_,h3b,λ_ z=>by cases z⟩
      by_cases c4:c=p
      . rw[c4,h3o p px.symm];exact⟨_,self2,λ_ z=>by cases z⟩
      by_cases c5:c=tm
      . rw[c5,h3o _ nx.1];exact dT.dct
      by_cases c6:c=tp
      . rw[c6,h3o _ nx.2];exact dG.dct
      simp[c1,c2,c3,c4,c5,c6] at hc
    . exact(h3o p px.symm).trans self2
    . rw[mem_onU];simp[c0]
  . have h1p:h p=none:=by rw[<-h1o p (by simp[px.symm,pa.symm,pb.symm])];exact hp
    have htm:h tm=none:=by rw[FR np.1] at ht;rw[<-h1o tm (by simp[nx.1,na.1,nb.1])];exact ht
    have htp:h tp=none:=by rw[FR np.2] at hg;rw[<-h1o tp (by simp[nx.2,na.2,nb.2])];exact hg
    by_cases c2:c=a
    . rw[c2];exact ha
    by_cases c3:c=b
    . rw[c3];exact hb
    by_cases c4:c=p
    . rw[c4];exact h1p
    by_cases c5:c=tm
    . rw[c5];exact htm
    by_cases c6:c=tp
    . rw[c6];exact htp
    simp[cx,c2,c3,c4,c5,c6] at hc
  . by_cases c1:c=x
    . simp[c1] at hc
    by_cases c2:c=a
    . simp[c2,xa.symm] at hc
    by_cases c3:c=b
    . simp[c3,xb.symm,ab.symm] at hc
    by_cases c4:c=p
    . simp[c4,px.symm,pa.symm,pb.symm] at hc
    by_cases c5:c=tm
    . simp[c5,nx.1,na.1,nb.1,np.1] at hc
    by_cases c6:c=tp
    . simp[c6,nx.2,na.2,nb.2,np.2,tg.symm] at hc
    rw[h3o c c1,o2' c c5 c6 c4,h1o c (by simp[c1,c2,c3])])
theorem d14:Ge p Tf:=Gk Gi (by walk_at "x4") (by walk_at "b2") "@eC2%8ba1cei3g2ba0bdcenGg2ba0bdcdfi3vba2cmfhkxk,well,left;_02;Zb6ba3bvba1cccq0M9ga2bN2ba1bvba2ccc" (by
 rintro ds h k e ⟨b,g,n,ws,rfl,W,hn,nd,l63,q⟩;refine FX ?_;dsimp only[Iq,JM,FL,FK];refine FI rfl ?_;show ∀p,h p=none->_;intro p hp;have np:=W.free hp;have W0:=W.put (o:= .lst (ws.map wD)) hp;have o0:Off [b,g,p] h (put h p (.lst (ws.map wD))):=(Off.refl _ _).put (by simp);have h0p:put h p (.lst (ws.map wD)) p=some (.lst (ws.map wD)):=put_same;generalize put h p (.lst (ws.map wD))=h0 at W0 o0 h0p;dsimp only[FM];refine FX ?_;dsimp only[FV,FL,dC,FK,FM];refine FI rfl (G5 W0 (by lia) (by decide) (by decide) λm h1 m0 m1 o1 W1=>?_);have fin:∀(m:Int)h2,0<=m->m<=63->Off [b,g,p] h h2->h2 p=some (.lst (ws.map wD))->Wl h2 b g (n+2)->(FP (FY (Hq (IT (FL (Gh II (FL (FN 3) (FL (Gh GO (FL (FN 1) FK)) FK))) FK)) [none,some 0,some 2] (FM 0) HL (Ir "list" Ks (FN 2) (FL (FV LB (FL (FN 1) (FL (Gh GO (FL (FN 2) FK)) FK))) FK))))) (HR k e) [some (.ref b),some (.lst (ws.map wD)),some (.ref p),some (.int m)] h2:=by
  intro m h2 m0 m1 o2 h2p W2;dsimp only[FP,FY,Hq,IT,Gh,FL,FK];refine FI rfl (FI rfl ?_);show _/\_;have mm:0<=(if((ws.map wD).length:Int)<m then((ws.map wD).length:Int) else m)/\(if((ws.map wD).length:Int)<m then((ws.map wD).length:Int) else m)<=ws.length:=by simp only[Ac];split<;>lia
  dsimp only;refine⟨⟨by lia,by lia⟩,?_⟩;refine Lf (λds σ acc hh=>∃(ls ps:List (List WP))(v:Option D),acc=ps.map wD/\hh p=some (.lst (ls.map wD))/\(ps++ls).Perm ws/\ds.length<=ls.length/\σ=[v,some (.ref b),some (.ref p)]/\Off [b,g,p] h hh/\Wl hh b g (n+2+ps.length)) (λ_ _ _ _ _=>True.intro) ?_ ?_ _ ⟨ws,[],none,rfl,h2p,.refl _,by simp;lia,rfl,o2,W2.mono (by simp)⟩
  . rintro d ds _ _ hh N ⟨ls,ps,v,rfl,hhp,pm,hl,rfl,oo,WW⟩ hN;unfold Ho;dsimp only[FM,HL,Ir,FV,FL,FK,Gh,cond_true];rw[Ao] at hl;have lp:ps.length+ls.length=ws.length:=by rw[<-Ah];exact pm.length_eq
    refine FI (d:= .ref p) rfl ⟨by simp only[IR,hhp],?_⟩;refine FI (d:= .ref b) rfl (FI (d:= .ref p) rfl ?_);simp only[GO,seqD,seqL,hhp];refine G5 WW (by lia) (by rw[Ac];lia) (by rw[Ac];lia) λr h3 r0 r1 o3 W3=>?_;rw[Ac] at r1;obtain⟨i,rfl⟩:∃i:Nat,r=(i:Int):=⟨r.toNat,by lia⟩;have hi:i<ls.length:=by lia
    have h3p:h3 p=some (.lst (ls.map wD)):=(o3.at2 np.1.symm np.2.symm).trans hhp;refine OW (i:=i) h3p (d:=wD ls[i]) (by rw[AB,Ap hi];rfl) (by lia) ?_;refine hN _ _ _ ⟨ls.eraseIdx i,ps++[ls[i]],_,by simp,?_,?_,?_,rfl,(oo.trans (Off.three o3)).put (by simp),(W3.cg (FR np.1) (FR np.2)).mono (by rw[Ah];simp;lia)⟩
    . rw[put_same,RC]
    . rw[Cs];refine(List.Perm.append_left ps ?_).trans pm;exact RN hi
    . rw[F2,if_pos hi];lia
  . rintro _ _ hh ⟨ls,ps,v,rfl,hhp,pm,hl,rfl,oo,WW⟩;have lp:ps.length+ls.length=ws.length:=by rw[<-Ah];exact pm.length_eq
    have ndp:=pm.nodup_iff.mpr nd;exact⟨cut hh p,Le.cut,q _ _ ⟨ps,rfl,(List.nodup_append.mp ndp).1,λw hw=>pm.mem_iff.mp (A1 _ hw)⟩ (oo.cut hp) ((WW.cut np.1 np.2).mono (by lia))⟩
 refine Ii ?_;dsimp only[F_,FJ,FV,FL,dC,FK];refine FI rfl (G5 W1 (by lia) (by decide) (by decide) λj h2 j0 j1 o2 W2=>GZ ?_);have h2p:h2 p=some (.lst (ws.map wD)):=(o2.at2 np.1.symm np.2.symm).trans ((o1.at2 np.1.symm np.2.symm).trans h0p);have o02:=o0.trans (Off.three (p:=p) (o1.trans o2));rcases Az (j==7) with hj | hj
 . refine FZ (b:=(j==7)) hj ?_;dsimp only[Go,Gh,FL,FK,FM];refine FI rfl ?_;simp only[GO,seqD,seqL,h2p];exact fin _ h2 (by lia) (by rw[Ac];lia) o02 h2p (W2.mono (by lia))
 . exact Gy (b:=(j==7)) hj (fin m h2 m0 (by lia) o02 h2p (W2.mono (by lia))))
theorem d15:Ge p Td:=Gk Gi (by walk_at "m1") (by walk_at "b1") "@ei1%wceyla0T3sp2sp3sp4SfF+a1bDba2b9aa3ub&!a3uda3b*a4ub&!a4uda4ccfh9jba1c" (by
 intro ds h k e q
 replace q:=l1 q;obtain⟨x,rfl,w,ex,l,q⟩:=q
 subst ex;refine FX λp hp=>?_;dsimp only[FM];refine HE (d:=wD w) rfl (L8 ?_);refine Hf (λds σ hh=>∃(p1 p2:List WP)(a b c:Option D),w=p1++p2/\ds=p2.map pD/\σ=[some (wD w),some (.ref p),a,b,c]/\hh=put h p (.lst (p1.map H0))) (λ_ _ _ _=>True.intro) ?_ ?_ _ ⟨[],w,none,none,none,rfl,rfl,rfl,rfl⟩
 . rintro _ _ _ _ N ⟨p1,_ | ⟨⟨f,lo,hi⟩,p2⟩,a,b,c,ew,ed,rfl,rfl⟩ hN
   . cases ed
   cases ed;refine⟨rfl,?_⟩;dsimp only[Lz,FM,Lq,Iu,Ir];refine FI (d:= .ref p) rfl ⟨by simp only[IR,put_same],?_⟩;have lp:p1.length<=1000:=by rw[ew,Ah] at l;lia
   have fin:=hN [some (wD w),some (.ref p),some (.str f),some (oD lo),some (oD hi)] (put h p (.lst ((p1++[(f,lo,hi)]).map H0))) ⟨p1++[(f,lo,hi)],p2,_,_,_,by simp[ew],rfl,rfl,rfl⟩;rw[AS,<-NV (o:= .lst (p1.map H0))] at fin;have lz:(p1.map H0).length<An:=by rw[Ac,sizeLine_eq];lia
   have A:JO (.ref p) [H0 (f,lo,hi)] (put h p (.lst (p1.map H0))) (λ_ h1=>N [some (wD w),some (.ref p),some (.str f),some (oD lo),some (oD hi)] h1):=JT put_same ⟨lz,fin⟩;cases lo<;>cases hi<;>exact A
 . rintro _ _ ⟨p1,p2,a,b,c,ew,ed,rfl,rfl⟩;have e2:p2=[]:=by cases p2 with | nil=>rfl | cons _ _=>cases ed
   subst e2;rw[A9] at ew;subst ew;dsimp only[FP,Gh,FL,FK];refine FI (d:= .ref p) rfl ?_;simp only[KQ,seqD,seqL,put_same];exact⟨h,Le.put hp,q⟩)
theorem d16:Ge p S_:=Gk Gi (by walk_at "m2") (by walk_at "b2") "@eyla0T3sp2sp3sp4SfnGa2a1fhDba3ba4cmfhu" (by
 intro ds h k e q
 replace q:=l2 q;obtain⟨x,y,rfl,w,f,ex,ey,q⟩:=q
 subst ex ey;refine HE (d:=wD w) rfl (L8 ?_);refine Hf (λds σ h'=>h'=h/\∃(ps:List WP)(a b c:Option D),ds=ps.map pD/\σ=[some (wD w),some (.str f),a,b,c]/\Jp ps f=Jp w f) (λ_ _ _ _=>True.intro) ?_ ?_ _ ⟨rfl,w,none,none,none,rfl,rfl,rfl⟩
 . rintro _ _ _ _ N ⟨rfl,_ | ⟨p,ps⟩,a,b,c,ed,rfl,er⟩ hN
   . cases ed
   cases ed;refine⟨rfl,?_⟩;have fin:=λe=>hN _ _ ⟨rfl,ps,some (.str p.1),some (oD p.2.1),some (oD p.2.2),rfl,rfl,e⟩;dsimp only[Lz,FM,Lq,G4,F_,FJ];refine FI (d:= .str p.1) rfl (FI rfl (LY ?_));by_cases e:p.1=f
   . rw[decide_eq_true e];unfold Jp HF at er;rw[Fj (by simpa using e)] at er;unfold Jp HF at q;rw[<-er] at q;exact Gb q
   . rw[decide_eq_false e];refine fin ?_;unfold Jp HF at er ⊢;rw[Fl (by simpa using e)] at er;exact er
 . rintro _ _ ⟨rfl,ps,a,b,c,ed,rfl,er⟩;cases ps with
   | cons p ps=>cases ed
   | nil=>rw[<-er] at q;exact Gb q)
theorem d17:Ge p SZ:=Gk Gi (by walk_at "m2") (by walk_at "b2") "@eyla0T3sp2sp3sp4Sei5g@ba1ba2cen!a5ufhzmenE<9la3u;EQ!ja5duU~ja5da3fhzmfnE<9la4u;EQ!ja5duU9ija5da4fhzmfhz" (by
 intro ds h k e q
 replace q:=l2 q;obtain⟨x,y,rfl,w,w',ex,ey,q⟩:=q
 subst ex ey;refine HE (d:=wD w) rfl (L8 ?_);refine Hf (λds σ h'=>h'=h/\∃(ps:List WP)(a b c t:Option D),ds=ps.map pD/\σ=[some (wD w),some (wD w'),a,b,c,t]/\ps.all (JV w')=Gg w w') (λ_ _ _ _=>True.intro) ?_ ?_ _ ⟨rfl,w,none,none,none,none,rfl,rfl,rfl⟩
 . rintro _ _ _ hh N ⟨eh,_ | ⟨p,ps⟩,a,b,c,t,ed,rfl,er⟩ hN
   . cases ed
   cases ed;subst eh;refine⟨rfl,?_⟩;have fin:=λt e=>hN _ _ ⟨rfl,ps,some (.str p.1),some (oD p.2.1),some (oD p.2.2),some t,rfl,rfl,e⟩;dsimp only[Lz,FM,Lq];refine FX ?_;dsimp only[FV,FL,FK];refine FI (d:=wD w') rfl (FI rfl ⟨w',p.1,rfl,rfl,?_⟩);dsimp only[FM];rw[Ce] at er;cases es:HF w' p.1 with
   | none=> rw[show Jp w' p.1= .non by unfold Jp;rw[es]];rw[Sa es] at er;rw[<-er] at q;exact Nz (λK z=>z) (Gb q)
   | some s=>
    rw[show Jp w' p.1= .tup [oD s.1,oD s.2] by unfold Jp;rw[es]];refine MZ (λK z=>z) ?_;rw[Sb es] at er;obtain⟨f,lo,hi⟩:=p;obtain⟨sl,sh⟩:=s;unfold Ia at er;have main:bif O3 lo sl then Ja k (.bl false) hh else(bif O2 hi sh then Ja k (.bl false) hh else N [some (wD w),some (wD w'),some (.str f),some (oD lo),some (oD hi),some (.tup [oD sl,oD sh])] hh):=by
     rw[VW,VZ];cases e1:J7 lo sl
     . rw[e1] at er;rw[<-er] at q;exact Gb q
     . cases e2:J_ hi sh
       . rw[e1,e2] at er;rw[<-er] at q;exact Gb q
       . rw[e1,e2] at er;exact fin _ er
    clear er es fin q hN;cases lo<;>cases hi<;>cases sl<;>cases sh<;>exact main
 . rintro _ _ ⟨rfl,ps,a,b,c,t,ed,rfl,er⟩;cases ps with
   | cons p ps=>cases ed
   | nil=>rw[<-er] at q;exact Gb q)
theorem d18:Ge p SY:=Gk Gi (by walk_at "m1") (by walk_at "b1") "@eC1%wceyla0p2fnRa2a1fF+a1ba2cme.wish,some;_1;3la19w0BGkxone,wish;_0;la1q0BE<Oa0a1;tNAba0ba1ca0kwca0fhk9m?ba3c" (by
 intro ds h k e q
 replace q:=l1 q;obtain⟨x,rfl,ws,U,ex,uo,sub,q⟩:=q
 subst ex;have okw:∀w∈ws,WOk w:=λw z=>uo.ok w (sub w z);refine FX λp hp=>?_;dsimp only[FM];refine HE (d:= .lst (ws.map wD)) rfl (Hc ?_);refine Hf (λds σ hh=>∃(w1 w2 us:List (List WP))(a:Option D),ws=w1++w2/\ds=w2.map wD/\σ=[some (.lst (ws.map wD)),some (.ref p),a,none]/\hh=put h p (.lst (us.map wD))/\us.Nodup/\∀w,w∈us↔w∈w1) (λ_ _ _ _=>True.intro) ?_ ?_ _ ⟨[],ws,[],none,rfl,rfl,rfl,rfl,.nil,λ_=>Iff.rfl⟩
 . rintro _ _ _ _ N ⟨w1,_ | ⟨v,w2⟩,us,a,ew,ed,rfl,rfl,nd,mu⟩ hN
   . cases ed
   cases ed;have oku:∀w∈us,WOk w:=λw z=>okw w (by rw[ew];exact A1 _ ((mu w).mp z));have okv:WOk v:=okw v (by rw[ew];simp);have lu:us.length<=63:=At (He _ _ nd λw z=>sub w (by rw[ew];exact A1 _ ((mu w).mp z))) uo.len;dsimp only[FM,G4,F_,FJ];refine FI rfl (FI (d:= .ref p) rfl (Pe put_same oku okv ?_));by_cases m:v∈us
   . rw[decide_eq_true m];refine hN _ _ ⟨w1++[v],w2,us,_,by simp[ew],rfl,rfl,rfl,nd,λw=>?_⟩;rw[Aq,<-mu,Af];exact⟨.inl,λz=>z.elim id λz=>z ▸ m⟩
   . rw[decide_eq_false m];refine FZ rfl ?_;dsimp only[Iu,Ir,FL,FK];refine FI (d:= .ref p) rfl ⟨by simp only[IR,put_same],?_⟩;refine FI rfl (JT put_same ⟨by rw[Ac,sizeLine_eq];lia,?_⟩);refine hN _ _ ⟨w1++[v],w2,us++[v],_,by simp[ew],rfl,rfl,by rw[NV,AS];rfl,AZ.mpr ⟨nd,by simp,λa ha b hb=>by rw[Af.mp hb];exact λz=>m (z ▸ ha)⟩,λw=>by rw[Aq,Aq,mu]⟩
 . rintro _ _ ⟨w1,w2,us,a,ew,ed,rfl,rfl,nd,mu⟩;have e2:w2=[]:=by cases w2 with | nil=>rfl | cons _ _=>cases ed
   subst e2;rw[A9] at ew;subst ew;have oku:∀w∈us,WOk w:=λw z=>okw w ((mu w).mp z);dsimp only;refine MH (d:= .ref p) rfl (ND put_same ?_);refine HD wD (λw=>!FW us w) (λσ=>∃o,σ=[o,some (.ref p)]) put_same us ⟨none,rfl⟩ (λw hw σ acc N ⟨o,es⟩ hN=>?_) ?_
   . subst es;unfold Ho;dsimp only[FM,F_,FJ,FY,Hq];refine IF (d:= .ref p) rfl (ND put_same ?_);refine HD wD (λo=>!decide (o=w) && Gg o w) (λσ=>∃o,σ=[o,some (wD w)]) put_same us ⟨none,rfl⟩ (λo ho σ acc2 N2 ⟨o2,es⟩ hN2=>?_) ?_
     . subst es;unfold Ho;dsimp only[FM,KA,F_,FJ,Gc,FV,FL,FK];refine FI rfl (FI rfl (Pk (oku o ho) (oku w hw) ?_));have:=hN2 [some (wD o),some (wD w)] ⟨_,rfl⟩;cases e:decide (o=w) with
       | true=>rw[e] at this;exact this
       | false=> rw[e] at this;refine FZ rfl ?_;refine FI rfl (FI rfl ⟨o,w,rfl,rfl,?_⟩);cases e2:Gg o w<;>rw[e2] at this<;>exact this
     . rw[A5];dsimp only[FK,sz];refine VY (λv hv=>oku v (A0.mp hv).1) ?_;have e:(us.filter λo=>!decide (o=w) && Gg o w).isEmpty=!FW us w:=by
        rw[A8,List.isEmpty_iff,List.filter_eq_nil_iff,undW_not];constructor
        . intro z o ho r;have:=z o ho;rw[r] at this;simpa using this
        . intro z o ho y;rw[Ae] at y;have:=z o ho y.2;simp[this] at y
       rw[e];exact IS (N:=λa=>N [some (wD w),some (.ref p)] a _) (hN _ ⟨_,rfl⟩)
   . rw[A5];dsimp only[FM,FP,FY];have top:=PK (ws:=ws) nd mu (λw=>!FW us w) (λw hw=>undW_not);generalize us.filter (λw=>!FW us w)=ts at top;have okt:∀w∈ts,WOk w:=λw z=>okw w ((top.mem w).mp z).1;have lt:ts.length<=63:=At (He _ _ top.nd λw z=>sub w ((top.mem w).mp z).1) uo.len;have main:J6 63 NL (ts.map wD) (put h p (.lst (us.map wD))) λrs=>(HR k e).rt (.lst rs) (put h p (.lst (us.map wD))):=PH lt (λw hw=>⟨w,rfl,At (okt w hw).len (by decide),rfl,λ_ _ z=>z⟩) λrs pr sr=>⟨h,Le.put hp,q rs (top.perm pr) sr⟩;exact main)
theorem d19:Ge p SX:=Gk Gi (by walk_at "x4") (by walk_at "b2") "@ei2kwceyla0p3fnOa3a1fi2oa2ja0a3mf#hgBba2c" (by
 rintro ds h k e ⟨d,x,bk,U,rfl,B,uo,hU,lt,q⟩;refine FX ?_;dsimp only[FY,FK,sz,FM];refine HE (d:= .ref d) rfl (Kj B.at' λep=>?_);refine Hf (λds σ hh=>hh=put h d (.wlk false ep (bk.map λr=> .str r.1) (bk.map λr=> .lst (r.2.map wD)))/\∃(b1 b2:Bk)(ws:List (List WP))(a:Option D),bk=b1++b2/\ds=b2.map (λr=>D.str r.1)/\σ=[some (.ref d),some (.str x),some (.lst (ws.map wD)),a]/\(ws.length<=(b1.flatMap (·.2)).length)/\∀v,v∈ws↔∃r∈b1,r.1≠x/\v∈r.2) (λ_ _ _ z=>by rw[z.1];exact put_same) ?_ ?_ _ ⟨rfl,[],bk,[],none,rfl,rfl,rfl,Al _,λv=>by simp⟩
 . rintro _ _ _ hh N ⟨eh,b1,_ | ⟨r,b2⟩,ws,a,eb,ed,rfl,lw,mw⟩ hN
   . cases ed
   cases ed;have lk:G7 (bk.map λr=>D.str r.1) (bk.map λr=> .lst (r.2.map wD)) (.str r.1)=some (.lst (r.2.map wD)):=L6 B.nd (by rw[eb];simp);have tl:(b1.flatMap (·.2)).length+r.2.length<=10000:=by rw[eb,CB,Ah,CM,Ah] at lt;lia
   dsimp only[FM,G4,F_,FJ];refine FI rfl (FI rfl (LY ?_));by_cases e:r.1=x
   . rw[decide_eq_true e];refine hN _ _ ⟨eh,b1++[r],b2,ws,_,by simp[eb],rfl,rfl,?_,λv=>?_⟩
     . rw[CB,Ah];lia
     . rw[mw];constructor
       . rintro⟨y,hy,z⟩;exact⟨y,A1 _ hy,z⟩
       . rintro⟨y,hy,z1,z2⟩;rcases Aq.mp hy with hy | hy
         . exact⟨y,hy,z1,z2⟩
         . rw[Af.mp hy] at z1;exact(z1 e).elim
   . rw[decide_eq_false e];refine FZ rfl ?_;dsimp only[Go,FJ,FM];refine FI rfl (FI rfl (FI rfl (L3 (.inr ⟨ep,by rw[eh];exact put_same⟩) rfl lk ?_)));refine⟨by rw[Ac,Ac,sizeLine_eq];lia,?_⟩;rw[<-AS];refine hN _ _ ⟨eh,b1++[r],b2,ws++r.2,_,by simp[eb],rfl,rfl,?_,λv=>?_⟩
     . rw[CB,Ah,Ah,CM,List.flatMap_nil,A9];lia
     . rw[Aq,mw];constructor
       . rintro(⟨y,hy,z⟩ | z)
         . exact⟨y,A1 _ hy,z⟩
         . exact⟨r,by simp,e,z⟩
       . rintro⟨y,hy,z1,z2⟩;rcases Aq.mp hy with hy | hy
         . exact .inl ⟨y,hy,z1,z2⟩
         . rw[Af.mp hy] at z2;exact .inr z2
 . rintro _ hh ⟨eh,b1,b2,ws,a,eb,ed,rfl,lw,mw⟩;have e2:b2=[]:=by cases b2 with | nil=>rfl | cons _ _=>cases ed
   subst e2;rw[A9] at eb;subst eb;refine Jq (h':=h) (by rw[eh];exact UnpTo.one B.at') ?_;dsimp only[FP,FV,FL,FK];refine FI rfl ⟨ws,U,rfl,uo,λw hw=>?_,λqs t s=>Gb (q qs ws mw t s)⟩;obtain⟨r,hr,_,z⟩:=(mw w).mp hw;exact hU r hr w z)
theorem d20:Ge p SW:=Gk Gi (by walk_at "m1") (by walk_at "b1") "@enEQAtHba0b0cUA9odvba0c9n1fhzmfh,bkxsign;_;la0q0M>9bLa0LI9bLa0Lc" (by
 intro ds h k e q
 replace q:=l1 q;obtain⟨x,rfl,f,ex,ok,q⟩:=q
 subst ex;have l1:=ok.lo;have l8:=ok.hi;refine⟨by rw[sizeLine_eq];lia,?_⟩;refine FZ (b:=decide ((1:Int)<=(f.length:Int))) (by simp;lia) ?_;refine Gy (b:=!decide ((f.length:Int)<=15)) (by simp;lia) ?_;refine⟨by rw[sizeLine_eq];lia,?_⟩;refine IY (λc:Nat=>D.str ⟨#[c]⟩) (λ_=> .bl true) (λσ=>∃o,σ=[o]) True.intro _ ⟨none,rfl⟩ (λc hc σ acc N ⟨o,es⟩ hN=>?_) (JZ (Gb q));subst es;have:=hN [some (.str ⟨#[c]⟩)] ⟨_,rfl⟩;rcases ok.sg c hc with⟨a,b⟩ | ⟨a,b⟩
 . refine FZ (b:=!I0 ⟨#[c]⟩ "a") (by rw[Ni Nc];simp;lia) ?_;refine FZ (b:=!I0 "z" ⟨#[c]⟩) (by rw[Pa OP];simp;lia) ?_;exact this
 . refine Gy (b:=!I0 ⟨#[c]⟩ "a") (by rw[Ni Nc];simp;lia) ?_;refine FZ (b:=!I0 ⟨#[c]⟩ "0") (by rw[Ni Uh];simp;lia) ?_;show N _ (acc++[.bl (!I0 "9" ⟨#[c]⟩)]) h;rw[show(!I0 "9" ⟨#[c]⟩)=true by rw[Pa Ui];simp;lia];exact this)
theorem d21:Ge p SV:=Gk Gi (by walk_at "m1") (by walk_at "b1") "@fnAtgDba0cf`m" (by
 intro ds h k e q
 replace q:=l1 q;obtain⟨x,rfl,f,ex,ok,q⟩:=q
 subst ex;exact⟨f,rfl,ok,Gb q⟩)
theorem d22:Ge p SU:=Gk Gi (by walk_at "m1") (by walk_at "b1") "@fh,bkxahead,behind;__;9xba0b]a0WdVcT2sq0sq1SM9yja0dja1dc" (by
 intro ds h k e q
 replace q:=l1 q;obtain⟨x,rfl,w,ex,ok,q⟩:=q
 subst ex;refine⟨rfl,rfl,?_⟩;obtain⟨ps,e,hp⟩:=YX ok;refine e ▸ IY (λp:WP×WP=>D.tup [pD p.1,pD p.2]) (λ_=> .bl true) (λσ=>∃a b,σ=[a,b]) ⟨True.intro,True.intro⟩ ps ⟨none,none,rfl⟩ (λp hm σ acc N ⟨a,b,es⟩ hN=>?_) (JZ (Gb q));subst es;refine⟨rfl,?_⟩;have:=hN [some (pD p.1),some (pD p.2)] ⟨_,_,rfl⟩;show N _ (acc++[.bl (I0 p.1.1 p.2.1)]) h;rw[show I0 p.1.1 p.2.1=true from decide_eq_true (hp p hm)];exact this)
theorem d23:Ge p SS:=Gk Gi (by walk_at "m1") (by walk_at "b1") "@enEQAtHba0b0cUA9odvba0c9n0fhzmfh,bkxsign;_;la0q0M9bLa0Lc" (by
 intro ds h k e q
 replace q:=l1 q;obtain⟨x,rfl,f,ex,ok,q⟩:=q
 subst ex;have l1:=ok.one;have l8:=ok.eight;refine⟨by rw[sizeLine_eq];lia,?_⟩;refine FZ (b:=decide ((1:Int)<=(f.length:Int))) (by simp;lia) ?_;refine Gy (b:=!decide ((f.length:Int)<=8)) (by simp;lia) ?_;refine⟨by rw[sizeLine_eq];lia,?_⟩;refine IY (λc:Nat=>D.str ⟨#[c]⟩) (λ_=> .bl true) (λσ=>∃o,σ=[o]) True.intro _ ⟨none,rfl⟩ (λc hc σ acc N ⟨o,es⟩ hN=>?_) (JZ (Gb q));subst es;refine FZ (b:=_) (OB (ok.all c hc)) ?_;have:=hN [some (.str ⟨#[c]⟩)] ⟨_,rfl⟩;show N _ (acc++[.bl (!I0 "z" ⟨#[c]⟩)]) h;rw[show(!I0 "z" ⟨#[c]⟩)=true from O8 (ok.all c hc)];exact this)
theorem d24:Ge p SR:=Gk Gi (by walk_at "m1") (by walk_at "b1") "@fhXHba0b9ccI9zHba0b9dc" (by
 intro ds h k e q
 replace q:=l1 q;obtain⟨x,rfl,o,ex,q⟩:=q
 subst ex;cases o<;>exact Gb q)
theorem d25:Ge p SQ:=Gk Gi (by walk_at "m1") (by walk_at "b1") "@fh>*a0uIgHba0c" (by
 intro ds h k e q
 replace q:=l1 q;obtain⟨x,rfl,o,ex,q⟩:=q
 subst ex;cases o
 . exact Gb q
 . exact⟨_,rfl,Gb q⟩)
theorem d26:Ge p SO:=Gk Gi (by walk_at "m1") (by walk_at "b1") "@enEQAtHba0b{cUOvba0cdfhzmePa0T2sp1sp2SenEQAtgIba1cUAtgIba2cfhzmfh>*a1u>*a2uI9ea1a2" (by
 intro ds h k e q
 replace q:=l1 q;obtain⟨x,rfl,lo,hi,ex,le,q⟩:=q
 subst ex;refine⟨rfl,⟨lo,rfl,hi,rfl,?_⟩⟩;cases lo<;>cases hi
 . exact Gb q
 . exact Gb q
 . exact Gb q
 . rename_i i j;refine Gb ?_;have:decide (i<=j)=true:=le;dsimp only;rw[this];exact q)
theorem d27:Ge p SM:=Gk Gi (by walk_at "m1") (by walk_at "b1") "@enEQAtHba0b{cUOvba0cdfhzmePa0T3sp1sp2sp3SfhXgGba1cIgJbDba2ba3cc" (by
 intro ds h k e q
 replace q:=l1 q;obtain⟨x,rfl,⟨f,lo,hi⟩,ex,ok,le,q⟩:=q
 subst ex;exact⟨rfl,f,rfl,ok,lo,hi,rfl,le,Gb q⟩)
theorem d28:Ge p SL:=Gk Gi (by walk_at "m1") (by walk_at "b1") "@enAtHba0b{cfhzmfhX,bkxpart;_;la0q0MNKba0ccIgFba0c" (by
 intro ds h k e q
 replace q:=l1 q;obtain⟨x,rfl,w,ex,ok,q⟩:=q
 subst ex;refine IY pD (λ_=> .bl true) (λσ=>∃o,σ=[o]) True.intro w ⟨none,rfl⟩ (λp hp σ acc N ⟨o,es⟩ hN=>?_) ?_
 . subst es;exact⟨p,rfl,(ok.ok p hp).1,(ok.ok p hp).2,hN _ ⟨_,rfl⟩⟩
 . dsimp only[FK,A5];exact JZ ⟨w,rfl,ok,Gb q⟩)
theorem d29:Ge p SK:=Gk Gi (by walk_at "m1") (by walk_at "b1") "@fhXHba0b|cI,bkxwish;_;la0q0MNLba0cc" (by
 intro ds h k e q
 replace q:=l1 q;obtain⟨x,rfl,ws,ex,ok,nd,l,q⟩:=q
 subst ex;refine IY wD (λ_=> .bl true) (λσ=>∃o,σ=[o]) True.intro ws ⟨none,rfl⟩ (λw hw σ acc N ⟨o,es⟩ hN=>?_) (JZ (Gb q));subst es;exact⟨w,rfl,ok w hw,hN _ ⟨_,rfl⟩⟩)
theorem d30:Ge p SJ:=Gk Gi (by walk_at "m1") (by walk_at "b1") "@fhXgMba0cI}9Aa0vba0c" (by
 intro ds h k e q
 replace q:=l1 q;obtain⟨x,rfl,ws,ex,ok,nd,l,q⟩:=q
 subst ex;refine⟨ws,rfl,ok,nd,l,?_⟩;refine⟨λd hd=>?_,key_wish.nd nd,by rw[Ac];exact l,?_⟩
 . obtain⟨w,_,rfl⟩:=AG.mp hd;exact Lo w
 . refine Gb ?_;show k (.bl (((ws.map wD).length:Int)==((ws.map wD).length:Int))) h;rw[beq_self_eq_true];exact q)
theorem d31:Ge p SI:=Gk Gi (by walk_at "m1") (by walk_at "b1") "@fnAtgNba0cf`m" (by
 intro ds h k e q
 replace q:=l1 q;obtain⟨x,rfl,ws,ex,ok,nd,l,q⟩:=q
 subst ex;exact⟨ws,rfl,ok,nd,l,Gb q⟩)
theorem d32:Ge p SH:=Gk Gi (by walk_at "m1") (by walk_at "b1") "@fh&!a0uDbdbdcDbdba0c" (by
 intro ds h k e q
 replace q:=l1 q;obtain⟨x,rfl,o,ex,q⟩:=q
 subst ex;cases o<;>exact Gb q)
theorem d33:Ge p SG:=Gk Gi (by walk_at "m1") (by walk_at "b1") "@fh&!a0uDbdbdcDbdba0c" (by
 intro ds h k e q
 replace q:=l1 q;obtain⟨x,rfl,o,ex,q⟩:=q
 subst ex;cases o<;>exact Gb q)
theorem d34:Ge p SF:=Gk Gi (by walk_at "m1") (by walk_at "b1") "@fhkxfield,low,high;___;la0T3sq0sq1sq2SMDba0bNPba1cbNQba2cc" (by
 intro ds h k e q
 replace q:=l1 q;obtain⟨x,rfl,w,ex,l,q⟩:=q
 subst ex;refine IY pD Ic (λσ=>∃a b c,σ=[a,b,c]) True.intro w ⟨none,none,none,rfl⟩ (λp hp σ acc N ⟨a,b,c,es⟩ hN=>?_) (Gb q);subst es;exact⟨rfl,p.2.1,rfl,p.2.2,rfl,hN _ ⟨_,_,_,rfl⟩⟩)
theorem d35:Ge p SE:=Gk Gi (by walk_at "m1") (by walk_at "b1") "@fhk9BRba0c" (by
 intro ds h k e q
 replace q:=l1 q;obtain⟨x,rfl,ws,hx,ok,l,q⟩:=q
 have main:J6 63 Q7 (ws.map wD) h λrs=>(HR k e).rt (.lst rs) h:=VH l (λw hw=>⟨w,rfl,At (ok w hw).len (by decide),rfl,λ_ _ z=>z⟩) λrs p s=>Gb (q rs p s);dsimp only[FP,FY];exact Xv hx main)
theorem d36:Ge p SD:=Gk Gi (by walk_at "x6") (by walk_at "b3") "@eyla2p3f?r0a0a3eyla1p3fPz(r0a0a3fhDbgSba1cbgSba2cc" (by
 rintro ds h k e ⟨p,tm,tp,G,cs,gs,rfl,hp,dG,okG,Jx,nd,sub,lG,lC,q⟩;have pt:p≠tp:=dG.ne_ins hp;have okg:∀w∈gs,WOk w:=λw hw=>okG w (sub w hw);have lg:gs.length<=63:=At (He _ _ nd sub) lG;refine HE (d:= .lst (gs.map wD)) rfl (Hc ?_);refine Hf (λds σ hh=>∃g1 g2 a,gs=g1++g2/\ds=g2.map wD/\σ=[some (.ref p),some (.lst (cs.map wD)),some (.lst (gs.map wD)),a]/\Off [tp] h hh/\Dic wD true hh tp (λw=>if w∈g1 then none else gF G w)) (λ_ _ _ _=>True.intro) ?_ ?_ _ ⟨[],gs,none,rfl,rfl,rfl,.refl _ _,dG.eq λw=>by simp⟩
 . rintro _ _ _ hh N ⟨g1,_ | ⟨v,g2⟩,a,eg,ed,rfl,of,dd⟩ hN
   . cases ed
   cases ed;dsimp only[FM,IQ];refine Ha rfl ((of.at1 pt).trans hp) rfl (FI rfl ?_);have vg:v∈gs:=by rw[eg];simp
   have v1:v ∉ g1:=λm=>by rw[eg,AZ] at nd;exact nd.2.2 v m v (.head _) rfl
   refine KI key_wish dd v (by rw[if_neg v1,gF_iff];exact sub v vg) λh' of' dd'=>hN _ _ ⟨g1++[v],g2,some (wD v),by simp[eg],rfl,rfl,of.trans of',dd'.eq λw=>?_⟩;by_cases e:w=v<;>simp[e]
 . rintro _ hh ⟨g1,g2,a,eg,ed,rfl,of,dd⟩;have e2:g2=[]:=by cases g2 with | nil=>rfl | cons _ _=>cases ed
   subst e2;rw[A9] at eg;subst eg;dsimp only;refine HE (d:= .lst (cs.map wD)) rfl (Hc ?_);refine Hf (λds σ hh=>∃c1 c2 a,cs=c1++c2/\ds=c2.map wD/\σ=[some (.ref p),some (.lst (cs.map wD)),some (.lst (gs.map wD)),a]/\Off [tp] h hh/\Dic wD true hh tp (λw=>if w∈c1 then some (.bl true) else if w∈gs then none else gF G w)) (λ_ _ _ _=>True.intro) ?_ ?_ _ ⟨[],cs,a,rfl,rfl,rfl,of,dd.eq λw=>by simp⟩
   . rintro _ _ _ hh N ⟨c1,_ | ⟨v,c2⟩,a,ec,ed,rfl,of,dd⟩ hN
     . cases ed
     cases ed;dsimp only[FM,Go,IU,dC];refine Ha rfl ((of.at1 pt).trans hp) rfl (FI rfl ?_);refine Lv (L:=cs++G) key_wish dd v (λx hx=>?_) (by rw[Ah,sizeLine_eq];lia) λh' of' dd'=>hN _ _ ⟨c1++[v],c2,some (wD v),by simp[ec],rfl,rfl,of.trans of',dd'.eq λw=>?_⟩
     . rw[Aq];by_cases m:x∈c1
       . exact .inl (by rw[ec];simp[m])
       . rw[if_neg m] at hx;by_cases m2:x∈gs
         . rw[if_pos m2] at hx;cases hx
         . rw[if_neg m2] at hx;exact .inr (gF_iff.mp hx)
     . by_cases e:w=v<;>simp[e]
   . rintro _ hh ⟨c1,c2,a,ec,ed,rfl,of,dd⟩;have e2:c2=[]:=by cases c2 with | nil=>rfl | cons _ _=>cases ed
     subst e2;rw[A9] at ec;subst ec;exact⟨cs,Nt rfl,Jx,lC,λcs' p1 s1=>⟨gs,Nt rfl,okg,lg,λgs' p2 s2=>Gb (q cs' gs' hh p1 p2 s1 s2 of dd)⟩⟩)
theorem d37:Ge p SC:=Gk Gi (by walk_at "m1") (by walk_at "b1") "@fh9Cfield,low,high;___;la0T3sq0sq1sq2SMa0Dba1ba2c" (by
 intro ds h k e q
 replace q:=l1 q;obtain⟨x,rfl,w,ex,ok,q⟩:=q
 subst ex;refine KZ (λ_=>true) (λd=> .str (Jw d).1) (λd=>sD (Jw d)) (λσ=>∃a b c,σ=[a,b,c]) True.intro _ ⟨none,none,none,rfl⟩ (λd hd σ ks vs N ⟨a,b,c,es⟩ hN=>?_) ?_
 . subst es;obtain⟨p,hp,rfl⟩:=AG.mp hd;have:=hN [some (.str p.1),some (oD p.2.1),some (oD p.2.2)] ⟨_,_,_,rfl⟩;rw[Mw] at this;exact⟨rfl,rfl,this⟩
 . intro r hr;rw[show((w.map pD).filter λ_=>true)=w.map pD by simp,ZZ ok];exact Gb (q r hr))
theorem d38:Ge p SB:=Gk Gi (by walk_at "m2") (by walk_at "b2") "@ePa0T2sp2sp3SePa1T2sp4sp5Sei6>*a2uIX9aa4uI9ea2a4ei7>*a3uIX9aa5uI9ea5a3fhXa6Ia7" (by
 intro ds h k e q
 replace q:=l2 q;obtain⟨x,y,rfl,a,b,c,d,ex,ey,q⟩:=q
 subst ex ey;refine⟨rfl,rfl,?_⟩;have main:bif J7 a c then Ja k (.bl (J_ b d)) h else Ja k (.bl false) h:=by unfold Ia at q;cases e:J7 a c<;>rw[e] at q<;>exact Gb q
 cases a<;>cases b<;>cases c<;>cases d<;>exact main)
theorem d39:Ge p SA:=Gk Gi (by walk_at "m2") (by walk_at "b2") "@eyla0T3sp2sp3sp4SfnEQRa2a1UAtgVbDba3ba4cbja1a2cfhzmfhz" (by
 intro ds h k e q
 replace q:=l2 q;obtain⟨x,y,rfl,w,w',d,ex,ey,hd,q⟩:=q
 subst ex ey;refine HE (d:=wD w) rfl (L8 ?_);refine Hf (λds σ h'=>h'=h/\∃(ps:List WP)(a b c:Option D),ds=ps.map pD/\σ=[some (wD w),some (.ref d),a,b,c]/\ps.all (JV w')=Gg w w') (λ_ _ _ _=>True.intro) ?_ ?_ _ ⟨rfl,w,none,none,none,rfl,rfl,rfl⟩
 . rintro _ _ _ _ N ⟨rfl,_ | ⟨p,ps⟩,a,b,c,ed,rfl,er⟩ hN
   . cases ed
   cases ed;have fin:=λe=>hN _ _ ⟨rfl,ps,some (.str p.1),some (oD p.2.1),some (oD p.2.2),rfl,rfl,e⟩;refine⟨rfl,?_⟩;cases es:HF w' p.1 with
   | none=> refine M3 hd rfl ?_;rw[R2,es];rw[Ce,Sa es] at er;rw[<-er] at q;exact Gb q
   | some s=>
    refine M3 hd rfl ?_;rw[R2,es];refine L3 hd rfl (RL es) ?_;refine⟨p.2.1,p.2.2,s.1,s.2,rfl,rfl,?_⟩;rw[Ce,Sb es] at er;cases eb:Ia p.2.1 p.2.2 s.1 s.2 with
    | true=>rw[eb] at er;exact fin er
    | false=>rw[eb] at er;rw[<-er] at q;exact Gb q
 . rintro _ _ ⟨rfl,ps,a,b,c,ed,rfl,er⟩;cases ps with
   | cons p ps=>cases ed
   | nil=>rw[<-er] at q;exact Gb q)
theorem d40:Ge p S9:=Gk Gi (by walk_at "m2") (by walk_at "b2") "@ei2gUba0ceyla1p3fnE<tgWba3ba2c;Oa3a0f#hzmf#hz" (by
 intro ds h k e q
 replace q:=l2 q;obtain⟨x,o,rfl,w,ws,ex,ok,row,oks,q⟩:=q
 subst ex;refine FX ⟨w,rfl,ok,λp hp=>?_⟩;have row2:Hg (put h p (PG w)) o=some (ws.map wD):=(Xu hp row).trans row;refine HE (d:=o) rfl (WA row2 λh1 C u hC=>?_);have h1p:=R4 (p:=p) u put_same;refine Hf (λds σ h'=>h'=h1/\∃(vs:List (List WP))(a:Option D),ds=vs.map wD/\σ=[some (wD w),some o,some (.ref p),a]/\FW vs w=FW ws w/\∀v∈vs,WOk v) (λ_ _ _ z=>hC _ λa _=>by rw[z.1]) ?_ ?_ _ ⟨rfl,ws,none,rfl,rfl,rfl,oks⟩
 . rintro _ _ _ _ N ⟨rfl,_ | ⟨v,vs⟩,a,ed,rfl,er,okv⟩ hN
   . cases ed
   cases ed;have fin:=λe=>hN _ _ ⟨rfl,vs,some (wD v),rfl,rfl,e,λx hx=>okv x (.tail _ hx)⟩;refine⟨v,w,p,rfl,rfl,h1p,?_⟩;unfold FW at er;rw[CC] at er;cases eb:Gg v w with
   | false=>rw[eb] at er;exact fin er
   | true=>
    dsimp only[Hp,cond_true,F_,FJ,FN,IB,List.set];refine Pk (okv v (.head _)) ok ?_;rw[eb] at er;cases ee:decide (v=w) with
    | true=>rw[ee] at er;exact fin er
    | false=> rw[ee] at er;refine Jq u ⟨h,Le.put hp,?_⟩;rw[show FW ws w=true from er.symm] at q;exact q
 . rintro _ _ ⟨rfl,vs,a,ed,rfl,er,okv⟩;cases vs with
   | cons p ps=>cases ed
   | nil=>exact Jq u ⟨h,Le.put hp,by rw[<-er] at q;exact q⟩)
theorem d41:Ge p S8:=Gk Gi (by walk_at "m1") (by walk_at "b1") "@eC19pwish;_;la0q0Ma0zfhkxwish,unlike;_1;la1q0BAtNZ10ba0ba1ca0" (by
 intro ds h k e q
 replace q:=l1 q;obtain⟨x,rfl,ws,ex,ok,q⟩:=q
 subst ex;refine FX ?_;refine KZ (λ_=>true) (λd=>d) (λ_=> .bl true) (λσ=>σ.length=1) True.intro (ws.map wD) rfl (λd hd σ ks vs N p hN=>?_) ?_
 . match σ,p with
   | [o],_=> obtain⟨w,hw,rfl⟩:=AG.mp hd;exact⟨Lo w,hN [some (wD w)] rfl⟩
 . intro p hp;obtain⟨us,vs,e1,nd,hm⟩:=PL ws;rw[show((ws.map wD).filter λ_=>true)=ws.map wD by simp,e1];have oku:∀v∈us,WOk v:=λv hv=>ok v ((hm v).mp hv);dsimp only[FM,FP,FY,Hq];refine IF (d:= .ref p) rfl (Kj put_same λep=>?_);refine HD wD (λw=>!FW us w) (λσ=>∃o,σ=[o,some (.ref p)]) put_same us ⟨none,rfl⟩ (λw hw σ acc N ⟨o,es⟩ hN=>?_) ?_
   . subst es;refine⟨w,us,rfl,oku w hw,by simp only[Hg,put_same],oku,?_⟩;have:=hN [some (wD w),some (.ref p)] ⟨_,rfl⟩;cases eb:FW us w<;>rw[eb] at this<;>exact this
   . rw[A5,NV];have t:=PK (ws:=ws) nd hm (λw=>!FW us w) (λw hw=>undW_not);exact⟨h,Le.put hp,q _ t λv hv=>((t.mem v).mp hv).1⟩)
theorem d42:Ge p S7:=Gk Gi (by walk_at "x7") (by walk_at "b2") "@e.wish,self;_0;2la1q0BRa0r0a1a0eyla1p3fPo9fr0a0a3dd(r0a0a3eC4kxwish,self;_0;lgZ11ba2cq0BAtNZ10ba0br0a1ca0ei5&ta4kxwish,come;_4;lr0a0q0BtNZ10ba0ba1ca0kwcf#hJ0Ta0ba4ba5c" (by
 rintro ds h k e ⟨p,tm,tp,c,G,U,ws,rfl,pl,uo,nd,hw,q⟩;refine MH (d:= .lst (ws.map wD)) rfl (Hc ?_);refine HD wD (λw=>!decide (c w≠0)) (λσ=>∃o,σ=[o,some (.ref p)]) True.intro ws ⟨none,rfl⟩ (λw hw σ acc N ⟨o,es⟩ hN=>?_) ?_
 . subst es;unfold Ho F_ FJ;dsimp only[FM];refine FI rfl (Ha rfl pl.self rfl (N0 key_wish pl.dT w ?_));rw[QA];exact IS (N:=λa=>N [some (wD w),some (.ref p)] a h) (hN _ ⟨_,rfl⟩)
 rw[A5];have mn:∀v,v∈ws.filter (λw=>!decide (c w≠0))↔v∈ws/\c v=0:=λv=>by rw[A0];simp
 generalize ws.filter (λw=>!decide (c w≠0))=nw at mn;dsimp only[FM];refine HE (d:= .lst (ws.map wD)) rfl (Hc ?_);have pm:p≠tm:=pl.dT.ne_ins pl.self;have pt:p≠tp:=pl.dG.ne_ins pl.self;refine Hf (λds σ hh=>∃w1 w2 a,ws=w1++w2/\ds=w2.map wD/\σ=[some (.ref p),some (.lst (ws.map wD)),some (.lst (nw.map wD)),a,none,none]/\Off [tm] h hh/\Dic wD true hh tm (tF (GQ c w1))) (λ_ _ _ _=>True.intro) ?_ ?_ _ ⟨[],ws,none,rfl,rfl,rfl,.refl _ _,pl.dT.eq λw=>by simp[tF,GQ]⟩
 . rintro _ _ _ hh N ⟨w1,_ | ⟨v,w2⟩,a,ew,ed,rfl,of,dd⟩ hN
   . cases ed
   cases ed;have v1:v ∉ w1:=λm=>by rw[ew,AZ] at nd;exact nd.2.2 v m v (.head _) rfl
   dsimp only[FM,Go,FJ];refine On key_wish dd v (λk' z=>Ha rfl ((of.at1 pm).trans pl.self) rfl z) (λk' z=>FI rfl z) ?_;rw[VI v1];dsimp only[dC,Gu,IU];refine Ha rfl ((of.at1 pm).trans pl.self) rfl (FI rfl ?_);refine Lv (L:=U) key_wish dd v (λx hx=>Q0 pl.sup (λw hm=>hw w (by rw[ew];exact A1 _ hm)) x (tF_iff.mp hx)) (by rw[sizeLine_eq];have:=uo.len;lia) λh' of' dd'=>hN _ _ ⟨w1++[v],w2,some (wD v),by simp[ew],rfl,rfl,of.trans of',dd'.eq (X8 v1)⟩
 . rintro _ hh ⟨w1,w2,a,ew,ed,rfl,of,dd⟩;have e2:w2=[]:=by cases w2 with | nil=>rfl | cons _ _=>cases ed
   subst e2;rw[A9] at ew;subst ew;dsimp only;have hself:=(of.at1 pm).trans pl.self;have dG:Dic wD true hh tp (gF G):=pl.dG.cg (of.at1 pl.ne.symm);have okw:∀w∈ws,WOk w:=λw hm=>uo.ok w (hw w hm);have okG:∀w∈G,WOk w:=λw hm=>uo.ok w (pl.inU w hm);obtain⟨gl,row,ng,mg⟩:=TY key_wish (.refl hh) dG
   replace mg:∀x,x∈gl↔x∈G:=λx=>(mg x).trans gF_iff
   refine KY ⟨nw,rfl,λv hv=>okw v ((mn v).mp hv).1,λQ tQ sQ=>Hc ?_⟩;have okQ:∀v∈Q,WOk v:=λv hv=>okw v ((mn v).mp (sQ v hv)).1;refine HD wD (λw=>!FW gl w) (λσ=>∃o,σ=[o,some (.ref p)]) True.intro Q ⟨none,rfl⟩ (λw hw σ acc N ⟨o,es⟩ hN=>?_) ?_
   . subst es;unfold Ho Gj Gc FV FL;dsimp only[FM];refine FI rfl (Ha rfl hself rfl ⟨w,gl,rfl,okQ w hw,row,λv hv=>okG v ((mg v).mp hv),?_⟩);have:=hN [some (wD w),some (.ref p)] ⟨_,rfl⟩;cases eu:FW gl w<;>rw[eu] at this<;>exact this
   rw[A5];have mc:∀v,v∈Q.filter (λw=>!FW gl w)↔v∈Q/\∀g∈G,Gg g v=true->g=v:=λv=>by rw[A0,Xl mg,undW_not]
   have nc:(Q.filter (λw=>!FW gl w)).Nodup:=tQ.nd.filter _;generalize Q.filter (λw=>!FW gl w)=cs at mc nc;have okc:∀v∈cs,WOk v:=λv hv=>okQ v ((mc v).mp hv).1;have cO:∀v∈cs,v ∉ G:=λv hv m=>(mem_onU.mp ((pl.top.mem v).mp m).1).2 ((mn v).mp (sQ v ((mc v).mp hv).1)).2;dsimp only[FM];have key:∀(gs:List (List WP))h2,UnpTo h2 hh->gs.Nodup->(∀v,v∈gs↔v∈G/\FW cs v=true)->K5 (FP (KO "Pool" "change_tops" Rz (FN 0) (FL (FN 4) (FL (FN 5) FK)))) (HR k e) [some (.ref p),some (.lst (ws.map wD)),some (.lst (nw.map wD)),a,some (.lst (cs.map wD)),some (.lst (gs.map wD))] h2:=by
    intro gs h2 u2 ngs mgs;refine Jq u2 ?_;dsimp only[FP,FL];refine IE rfl hself rfl (FI rfl (FI rfl ?_));have mD:∀v,v∈gl.filter (λw=>!FW cs w)↔v∈G/\∀c∈cs,Gg c v=true->c=v:=λv=>by rw[A0,mg,undW_not]
    have top:=Xr (ws:=ws) uo pl.top hw mn tQ mc nc mD (ng.filter _);have lc:cs.length<=63:=At (He _ _ nc λv hv=>hw v ((mn v).mp (sQ v ((mc v).mp hv).1)).1) uo.len;refine⟨p,tm,tp,G,cs,gs,rfl,hself,dG,okG,okc,ngs,λg hg=>((mgs g).mp hg).1,MB uo pl.top,lc,λcs' gs' h' p1 p2 s1 s2 of' dd'=>Gb ?_⟩;have mT:∀v,v∈gl.filter (λw=>!FW cs w)++cs↔(v∈G/\v ∉ gs)\/v∈cs:=λv=>by
     rw[Aq,mD,mgs];refine or_congr ⟨λ⟨z1,z2⟩=>⟨z1,λ⟨_,z⟩=>?_⟩,λ⟨z1,z2⟩=>⟨z1,?_⟩⟩ Iff.rfl
     . have:=undW_not.mpr z2;rw[z] at this;cases this
     . exact undW_not.mp (by cases eu:FW cs v with | false=>rfl | true=>exact(z2 ⟨z1,eu⟩).elim)
    refine q cs' gs' (gl.filter (λw=>!FW cs w)++cs) h' ((Off.two of).trans (Off.two' of')) ⟨?_,?_,dd'.eq λw=>?_,pl.ne,top,Q0 pl.sup hw⟩ ⟨s1,s2,p1.nodup_iff.mpr nc,p2.nodup_iff.mpr ngs,λv=>?_,λv=>?_⟩
    . rw[of'.at1 pt];exact hself
    . exact dd.cg (of'.at1 pl.ne)
    . unfold gF;simp only[mT];by_cases z1:w∈cs<;>by_cases z2:w∈gs<;>by_cases z3:w∈G<;>simp[z1,z2,z3]
    . rw[p1.mem_iff,mT];exact⟨λz=>⟨.inr z,cO v z⟩,λ⟨z,n⟩=>z.resolve_left λy=>n y.1⟩
    . rw[p2.mem_iff,mT];constructor
      . exact λz=>⟨((mgs v).mp z).1,λy=>y.elim (λy=>y.2 z) λy=>cO v y ((mgs v).mp z).1⟩
      . exact λ⟨z,n⟩=>AE λy=>n (.inl ⟨z,y⟩)
   refine FX ?_;cases ec:cs with
   | nil=> subst ec;exact key [] hh (.refl hh) .nil λv=>by simp[FW]
   | cons c0 cs0=>
    rw[<-ec];have ne:(cs.map wD).isEmpty=false:=by rw[ec];rfl
    clear ec;unfold Hu Gc;refine FI rfl ?_;refine FZ (b:=!(cs.map wD).isEmpty) (by rw[ne];rfl) ?_;dsimp only[FY,Hq];refine M8 rfl hself rfl (KL key_wish (.refl hh) dG λgl2 h2 C2 u2 ng2 mg2 hC2=>?_);refine HD wD (λw=>FW cs w) (λσ=>∃o,σ=[o,some (.lst (cs.map wD))]) (hC2 _ rfl) gl2 ⟨none,rfl⟩ (λw hw σ acc N ⟨o,es⟩ hN=>?_) ?_
    . subst es;refine⟨w,cs,rfl,okG w (gF_iff.mp ((mg2 w).mp hw)),rfl,okc,?_⟩;have:=hN [some (wD w),some (.lst (cs.map wD))] ⟨_,rfl⟩;cases eu:FW cs w<;>rw[eu] at this<;>exact this
    . rw[A5];exact key _ h2 u2 (ng2.filter _) λv=>by rw[A0,mg2,gF_iff])
theorem d43:Ge p S4:=Gk Gi (by walk_at "x5") (by walk_at "b3") "@fh9qa19fr1a0a2_" (by
 rintro ds h k e ⟨s,lab,hb,x,w,rfl,sh,q⟩;dsimp only[FP,FJ];obtain⟨W,dW,n0,n1⟩:=sh.nW.ex;refine FI rfl (Og key_wish dW w (λk' z=>Ha rfl sh.self rfl z) (λk' z=>FI rfl z) λp hp=>?_);cases ew:W w with
 | none=> refine N0 (f:=λ_=>none) Iw Dic.nil x ⟨h,Le.put hp,?_⟩;rw[n0 w ew x] at q;exact q
 | some v=> obtain⟨_,d,rfl,e2,e3⟩:=n1 w v ew;refine N0 Iw (e3.cg (FR (e3.ne_none hp))) x ⟨h,Le.put hp,?_⟩;rw[IZ];exact q)
theorem d44:Ge p Sz:=Gk Gi (by walk_at "x7") (by walk_at "b3") "@ei39Dr1a0a1=ePz(a3a2ei49Er1a0a2_fPz(a4a1" (by
 rintro ds h k e ⟨s,lab,hb,x,w,hs,U,rfl,sh,sup,l1,l2,q⟩;have L1:hs.length<An:=by rw[sizeLine_eq];lia
 have Lake:U.length<An:=by rw[sizeLine_eq];lia
 refine FX (Nst.add key_wish Iw sh.nB OA Tu sh.free x (λk' z=>Ha rfl sh.self rfl z) (λk' z=>FI rfl z) (L:=hs) (λy v e=>(sup y v e).1) L1 λd p h1 hp o1 h1p ld dd fin=>?_);dsimp only[FM];refine FX ?_;dsimp only[dC,IU];refine FI rfl (FI rfl (Lv (L:=U) key_wish dd w (λv hv=>(sup x v (by rw[IZ] at hv;exact hv)).2) Lake λh2 o2 d2=>?_));have nB:=fin h2 w o2 d2;have lp:=sh.free p hp;have old1:∀c r,lab c=some r->Ga lab p (.hold x) c=some r:=λc r z=>by unfold Ga;rw[if_neg λy=>by rw[y,lp] at z;cases z];exact z
 have fr1:FrB (Ga lab p (.hold x)) h h2:=λc hc=>by
  have c1:c≠d:=λz=>by rw[z,ld] at hc;cases hc
  have c2:c≠p:=λz=>by rw[z] at hc;simp[Ga,J2] at hc
  have c3:c≠s.bh:=λz=>by rw[z,nB.lr] at hc;cases hc
  rw[o2.at1 c1];exact o1 c (by simp[c2,c3])
 have cov1:∀c,Ga lab p (.hold x) c≠none->∃o,h2 c=some o/\∀xs,o≠ .lst xs:=λc hc=>by
  by_cases c1:c=d
  . rw[c1];exact d2.dct
  . rw[o2.at1 c1];by_cases c2:c=p
    . obtain⟨t,ks,vs,z⟩:=h1p;rw[c2];exact⟨_,z,λxs q=>by cases q⟩
    . by_cases c3:c=s.bh
      . obtain⟨B,z,_⟩:=nB.ex;have:=z.dct;rw[<-c3,o2.at1 c1] at this;exact this
      . rw[o1 c (by simp[c2,c3])];exact sh.cov c (by unfold Ga at hc;rw[if_neg c2] at hc;exact hc)
 have nW:Nst wD true D.str false .bw .held h2 (Ga lab p (.hold x)) s.bw (λw x=>hb x w):=sh.nW.keep old1 λc z=>by
  have c0:Ga lab p (.hold x) c=some .bw\/∃v,Ga lab p (.hold x) c=some (.held v):=z.imp (old1 _ _) λ⟨v,y⟩=>⟨v,old1 _ _ y⟩;have c1:c≠d:=by rintro rfl;rw[ld] at c0;rcases c0 with y | ⟨_,y⟩<;>cases y
  have c2:c≠p:=by rintro rfl;rcases c0 with y | ⟨_,y⟩<;>simp[Ga] at y
  have c3:c≠s.bh:=by rintro rfl;rw[nB.lr] at c0;rcases c0 with y | ⟨_,y⟩<;>cases y
  rw[o2.at1 c1];exact o1 c (by simp[c2,c3])
 have self2:=(fr1 s.a (by rw[old1 _ _ sh.la];rfl)).trans sh.self;have free2:∀c,h2 c=none->Ga lab p (.hold x) c=none:=λc z=>AE λy=>by obtain⟨o,y,_⟩:=cov1 c y;rw[z] at y;cases y
 generalize hl1:Ga lab p (.hold x)=lab1 at*;refine FX (Nst.add Iw key_wish nW O9 Tt free2 w (λk' z=>Ha rfl self2 rfl z) (λk' z=>FI rfl z) (L:=U) (λv y e=>(sup y v e).2) Lake λd' p' h3 hp' o3 h3p ld' dd' fin'=>?_);dsimp only[FM,Go,dC,IU];refine FI rfl (FI rfl (Lv (L:=hs) Iw dd' x (λv hv=>(sup v w (by rw[IZ] at hv;exact hv)).1) L1 λh4 o4 d4=>?_));have nW4:=fin' h4 x o4 d4;rw[RJ] at nW4;have lp':=free2 p' hp';have old2:∀c r,lab1 c=some r->Ga lab1 p' (.held w) c=some r:=λc r z=>by unfold Ga;rw[if_neg λy=>by rw[y,lp'] at z;cases z];exact z
 have fr2:FrB (Ga lab1 p' (.held w)) h2 h4:=λc hc=>by
  have c1:c≠d':=λz=>by rw[z,ld'] at hc;cases hc
  have c2:c≠p':=λz=>by rw[z] at hc;simp[Ga,J2] at hc
  have c3:c≠s.bw:=λz=>by rw[z,nW4.lr] at hc;cases hc
  rw[o4.at1 c1];exact o3 c (by simp[c2,c3])
 have nB4:Nst D.str false wD true .bh .hold h4 (Ga lab1 p' (.held w)) s.bh (G8 hb x w true):=nB.keep old2 λc z=>by
  have c0:Ga lab1 p' (.held w) c=some .bh\/∃v,Ga lab1 p' (.held w) c=some (.hold v):=z.imp (old2 _ _) λ⟨v,y⟩=>⟨v,old2 _ _ y⟩;have c1:c≠d':=by rintro rfl;rw[ld'] at c0;rcases c0 with y | ⟨_,y⟩<;>cases y
  have c2:c≠p':=by rintro rfl;rcases c0 with y | ⟨_,y⟩<;>simp[Ga] at y
  have c3:c≠s.bw:=by rintro rfl;rw[nW4.lr] at c0;rcases c0 with y | ⟨_,y⟩<;>cases y
  rw[o4.at1 c1];exact o3 c (by simp[c2,c3])
 have e1:Ext lab lab1 h:=⟨old1,λc z y=>by
  rw[<-hl1] at y;unfold Ga at y;by_cases e:c=p
  . rw[e];exact hp
  . rw[if_neg e] at y;exact(y z).elim⟩
 have e2:Ext lab1 (Ga lab1 p' (.held w)) h2:=⟨old2,λc z y=>by
  unfold Ga at y;by_cases e:c=p'
  . rw[e];exact hp'
  . rw[if_neg e] at y;exact(y z).elim⟩
 have fr:=fr1.trans fr2 old2;refine Gb (q _ h4 (sh.mk' (λc r z=>old2 c r (old1 c r z)) fr (λc hc=>?_) (λc z y=>?_) nB4 nW4) (e1.trans e2 λc z=>fr1 c (by rw[z];rfl)) fr)
 . by_cases c1:c=d'
   . rw[c1];exact d4.dct
   . rw[o4.at1 c1];by_cases c2:c=p'
     . obtain⟨t,ks,vs,z⟩:=h3p;rw[c2];exact⟨_,z,λxs q=>by cases q⟩
     . by_cases c3:c=s.bw
       . obtain⟨B,z,_⟩:=nW4.ex;have:=z.dct;rw[<-c3,o4.at1 c1] at this;exact this
       . rw[o3 c (by simp[c2,c3])];exact cov1 c (by unfold Ga at hc;rw[if_neg c2] at hc;intro z;rw[z] at hc;cases hc)
 . unfold Ga at y ⊢;by_cases e:c=p'
   . simp[e,J2]
   . rw[if_neg e] at y ⊢;rw[<-hl1] at y ⊢;unfold Ga at y ⊢;by_cases e:c=p
     . simp[e,J2]
     . rw[if_neg e] at y;exact(y z).elim)
theorem d45:Ge p Sy:=Gk Gi (by walk_at "x8") (by walk_at "b3") "@eFgEba1ceFgOba2ceyla2p3fntJ1Z13a0ba1ba3cf`meyla2p3fFJ1Z14a0ba1ba3cfhJ0Z12r1a0ba2c" (by
 rintro ds h k e ⟨s,lab,hb,hs,U,G,x,ws,rfl,sh,okx,hx,nd,hw,q⟩;have hU:∀w∈ws,w∈U:=λw z=>(hw w z).1;have l63:=sh.uo.len;have l200:=sh.len;refine La ⟨x,rfl,okx,?_⟩;refine La ⟨ws,rfl,λw z=>sh.uo.ok w (hU w z),nd,At (He _ _ nd hU) l63,?_⟩;refine HE (d:= .lst (ws.map wD)) rfl (Hc ?_);refine Hf (λds σ h'=>h'=h/\∃w2 a,(∀w∈w2,w∈ws)/\ds=w2.map wD/\σ=[some (.ref s.a),some (.str x),some (.lst (ws.map wD)),a]) (λ_ _ _ _=>True.intro) ?_ ?_ _ ⟨rfl,ws,none,λ_ z=>z,rfl,rfl⟩
 . rintro _ _ _ _ N ⟨rfl,_ | ⟨v,w2⟩,a,sub,ed,rfl⟩ hN
   . cases ed
   cases ed;dsimp only[FM,G4,Gc,Gj,FL];refine IE rfl sh.b.self rfl (FI rfl (FI rfl ⟨s,lab,hb,x,v,rfl,sh.b,?_⟩));rw[(hw v (sub v (.head _))).2];exact hN _ _ ⟨rfl,w2,some (wD v),λw z=>sub w (.tail _ z),rfl,rfl⟩
 . rintro _ h' ⟨eh,w2,a,sub,ed,rfl⟩;rw[eh];dsimp only;refine HE (d:= .lst (ws.map wD)) rfl (Hc ?_);refine Hf (λds σ hh=>∃w1 w2 a lab1,ws=w1++w2/\ds=w2.map wD/\σ=[some (.ref s.a),some (.str x),some (.lst (ws.map wD)),a]/\ShB hh lab1 s (GX hb x w1 true)/\Ext lab lab1 h/\FrB lab1 h hh) (λ_ _ _ _=>True.intro) ?_ ?_ _ ⟨[],ws,a,lab,rfl,rfl,rfl,by rw[RI];exact sh.b,.refl _ _,λ_ _=>rfl⟩
   . rintro _ _ _ hh N ⟨w1,_ | ⟨v,w2⟩,a,lab1,ew,ed,rfl,sh1,ex1,fr1⟩ hN
     . cases ed
     cases ed;have v1:v ∉ w1:=λm=>by rw[ew,AZ] at nd;exact nd.2.2 v m v (.head _) rfl
     have vw:v∈ws:=by rw[ew];simp
     dsimp only[FM,Iu,FL];refine IE rfl sh1.self rfl (FI rfl (FI rfl ?_));refine⟨s,lab1,GX hb x w1 true,x,v,hs,U,rfl,sh1,NN sh.sup hx λw z=>hU w (by rw[ew];exact A1 _ z),l200,l63,λlab' h' sh' ex' fr'=>hN _ _ ⟨w1++[v],w2,some (wD v),lab',by simp[ew],rfl,rfl,?_,ex1.trans ex' λc z=>fr1 c (by rw[z];rfl),fr1.trans fr' ex'.old⟩⟩;rw[<-Sg];exact sh'
   . rintro _ hh ⟨w1,w2,a,lab1,ew,ed,rfl,sh1,ex1,fr1⟩;have e2:w2=[]:=by cases w2 with | nil=>rfl | cons _ _=>cases ed
     subst e2;rw[A9] at ew;subst ew;dsimp only[FP,FL];have pl1:PlAt hh s.pa s.tm s.tp (Gs hs hb) G U:=sh.pl.cg (fr1 _ (by rw[sh1.lp];rfl)) (fr1 _ (by rw[sh1.lt];rfl)) (fr1 _ (by rw[sh1.lg];rfl));refine NZ rfl sh1.self rfl pl1.self rfl (FI rfl ?_);refine⟨s.pa,s.tm,s.tp,Gs hs hb,G,U,ws,rfl,pl1,sh.uo,nd,hU,λcs gs G' h' of pl' told=>Gb ?_⟩;have ec:GQ (Gs hs hb) ws=Gs hs (GX hb x ws true):=funext λv=>by unfold GQ;rw[WG sh.nd hx λv z=>(hw v z).2]
     rw[ec] at pl';refine q cs gs G' lab1 h' ⟨sh1.pool of pl',pl',sh.uo,sh.nd,sh.len,NN sh.sup hx hU⟩ ex1 (λc hc=>?_) told;rw[of c λm=>?_]
     . exact fr1 c (by rw[hc];rfl)
     . simp only[Ag,AC,or_false] at m;rcases m with m | m
       . rw[m,sh1.lt] at hc;cases hc
       . rw[m,sh1.lg] at hc;cases hc)
theorem d46:Ge p Sx:=Gk Gi (by walk_at "x8") (by walk_at "b2") "@eC2kxwish,self;_0;la1q0B1a0r0a1a0enAta2f#hkwcmeC3kxwish,lost;_1;lr0a0q0BRa0a1a0e.wish,lost,fallen;_12;4lr0a0q0BE<Ra0a1;tNZ10ba0ba2ca0f#hgZ11bkxwish,staying;_3;la4q0BAtNZ10ba0ba1ca0c" (by
 rintro ds h k e ⟨p,tm,tp,l,T,G,L,U,rfl,hp,dT,dG,dL,ok,hT,hG,hL,q⟩;refine MH (d:= .ref l) rfl (KL key_wish (.refl h) dL λls h1 C1 u1 nl ml hC1=>?_)
 replace ml:∀x,x∈ls↔x∈L:=λx=>(ml x).trans gF_iff
 refine HD wD (λw=>decide (w∈G)) (λσ=>∃o,σ=[o,some (.ref p)]) (hC1 _ rfl) ls ⟨none,rfl⟩ (λw hw σ acc N ⟨o,es⟩ hN=>?_) ?_
 . subst es;unfold Ho F_ FJ;dsimp only[FM];refine FI rfl (Ha rfl (u1.ins hp) rfl ?_);refine L0 key_wish u1 dG w ?_;rw[Lb];exact IS (N:=λa=>N [some (wD w),some (.ref p)] a h1) (hN _ ⟨_,rfl⟩)
 rw[A5];have mf:∀x,x∈ls.filter (λw=>decide (w∈G))↔x∈L/\x∈G:=λx=>by rw[A0,ml,decide_eq_true_iff]
 generalize ls.filter (λw=>decide (w∈G))=fl at mf;have okf:∀v∈fl,WOk v:=λv hv=>ok v (hG v ((mf v).mp hv).2);dsimp only[FM];cases fl with
 | nil=> refine Nz (λK z=>z) (Jq u1 (Gb (q [] [] (λv=>⟨λz=>(by cases z),λ⟨_,_,⟨g,hg,gl,_⟩,_⟩=>?_⟩) ⟨.nil,λw=>by simp⟩)));cases((mf g).mpr ⟨gl,hg⟩)
 | cons f0 fl0=>
  refine MZ (λK z=>z) ?_;generalize f0::fl0=fl at mf okf;refine KY (M8 rfl (u1.ins hp) rfl (KL key_wish u1 dG λgl h2 C2 u2 ng mg hC2=>?_));refine HD wD (λw=>!decide (w∈L)) (λσ=>∃o,σ=[o,some (.ref l)]) (hC2 _ rfl) gl ⟨none,rfl⟩ (λw hw σ acc N ⟨o,es⟩ hN=>?_) ?_
  . subst es;refine L0 key_wish u2 dL w ?_;rw[Lb];exact IS (N:=λa=>N [some (wD w),some (.ref l)] a h2) (hN _ ⟨_,rfl⟩)
  rw[A5];have ms:∀x,x∈gl.filter (λw=>!decide (w∈L))↔x∈G/\x ∉ L:=λx=>by rw[A0,mg,gF_iff];simp
  generalize gl.filter (λw=>!decide (w∈L))=sl at ms;have oks:∀v∈sl,WOk v:=λv hv=>ok v (hG v ((ms v).mp hv).1);dsimp only[FM];refine KY (M8 rfl (u2.ins hp) rfl (KL key_wish u2 dT λtl h3 C3 u3 nt mt hC3=>?_));refine HD wD (λw=>!decide (w∈L) && FW fl w) (λσ=>∃o,σ=[o,some (.ref l),some (.lst (fl.map wD))]) (hC3 _ rfl) tl ⟨none,rfl⟩ (λw hw σ acc N ⟨o,es⟩ hN=>?_) ?_
  . subst es;have okw:WOk w:=ok w (hT w ((mt w).mp hw));refine L0 key_wish u3 dL w ?_;rw[Lb];have:=hN [some (wD w),some (.ref l),some (.lst (fl.map wD))] ⟨_,rfl⟩;cases em:decide (w∈L) with
    | true=>rw[em] at this;exact this
    | false=> rw[em] at this;refine⟨w,fl,rfl,okw,rfl,okf,?_⟩;cases eu:FW fl w<;>rw[eu] at this<;>exact this
  rw[A5];have mr:∀x,x∈tl.filter (λw=>!decide (w∈L) && FW fl w)↔(T x).isSome=true/\x ∉ L/\FW fl x=true:=λx=>by rw[A0,mt];simp
  generalize tl.filter (λw=>!decide (w∈L) && FW fl w)=rl at mr;have okr:∀v∈rl,WOk v:=λv hv=>ok v (hT v ((mr v).mp hv).1);dsimp only[FM];refine Jq u3 ?_;dsimp only[FP,FV,FL,FY,Hq];refine IF (d:= .lst (rl.map wD)) rfl (Hc ?_);refine HD wD (λw=>!FW sl w) (λσ=>∃o,σ=[o,some (.lst (sl.map wD))]) True.intro rl ⟨none,rfl⟩ (λw hw σ acc N ⟨o,es⟩ hN=>?_) ?_
  . subst es;refine⟨w,sl,rfl,okr w hw,rfl,oks,?_⟩;have:=hN [some (wD w),some (.lst (sl.map wD))] ⟨_,rfl⟩;cases eu:FW sl w<;>rw[eu] at this<;>exact this
  rw[A5];refine⟨_,rfl,λv hv=>okr v (A0.mp hv).1,λqs tq _=>Gb (q _ qs (λv=>?_) tq)⟩;rw[A0,mr,undW_not,ML];constructor
  . rintro⟨⟨h1,h2,g,hg,r,n⟩,h4⟩;exact⟨h1,h2,⟨g,((mf g).mp hg).2,((mf g).mp hg).1,r,n⟩,λs hs nl r=>h4 s ((ms s).mpr ⟨hs,nl⟩) r⟩
  . rintro⟨h1,h2,⟨g,gG,gL,r,n⟩,h4⟩;exact⟨⟨h1,h2,g,(mf g).mpr ⟨gL,gG⟩,r,n⟩,λs hs r=>h4 s ((ms s).mp hs).1 ((ms s).mp hs).2 r⟩)
theorem d47:Ge p Sw:=Gk Gi (by walk_at "x7") (by walk_at "b2") "@e9Fwish,self;_0;2la1q0BGjr0a1a0da0zeyla1p3f9Gr0a0a3deyla2p3f?r0a0a3e.wish,self;_0;4la2q0B1a0r0a1a0f#hJ0Ta0bJ0Z16a0ba2cba4c" (by
 rintro ds h k e ⟨p,tm,tp,c,G,U,ws,rfl,pl,uo,nd,hw,q⟩;refine FX ?_;dsimp only[L_];refine IF (d:= .lst (ws.map wD)) rfl (Hc ?_);refine KZ (λd=>((c (Iz d):Int)==1)) (λd=>d) (λ_=> .bl true) (λσ=>∃o,σ=[o,some (.ref p)]) True.intro (ws.map wD) ⟨none,rfl⟩ (λd hd σ ks vs N ⟨o,es⟩ hN=>?_) ?_
 . subst es;obtain⟨w,hm,rfl⟩:=AG.mp hd;unfold K7 F_ FJ;dsimp only[FM];refine Ha rfl pl.self rfl (FI rfl (KW key_wish pl.dT w (d:= .int (c w)) (by simp[tF,hw w hm]) ?_));have:=hN [some (wD w),some (.ref p)] ⟨_,rfl⟩;rw[Jv] at this;show bif ((c w:Int)==1) then(G3 true (wD w)=true/\N _ _ _ h) else N _ _ _ h
   cases eb:((c w:Int)==1)<;>rw[eb] at this
   . exact this
   . exact⟨Lo w,this⟩
 intro l hl;rw[Pl (b:=λw=>((c w:Int)==1))];have mL:∀v,v∈ws.filter (λw=>((c w:Int)==1))↔v∈ws/\c v=1:=λv=>by rw[A0];simp;lia
 have dL:=Qp (h:=h) (p:=l) (ws.filter (λw=>((c w:Int)==1)));generalize ws.filter (λw=>((c w:Int)==1))=L at mL dL;generalize eh1:put h l _=h1 at dL;have lt:tm≠l:=pl.dT.ne_none hl;have lp:tp≠l:=pl.dG.ne_none hl;have pl1:PlAt h1 p tm tp c G U:=by subst eh1;exact pl.cg (FR λz=>by have:=pl.self;rw[z,hl] at this;cases this) (FR lt) (FR lp)
 have le1:Le h h1:=by subst eh1;exact Le.put hl
 dsimp only[FM];refine HE (d:= .lst (ws.map wD)) rfl (Hc ?_);have pm:p≠tm:=pl.dT.ne_ins pl.self;have pt:p≠tp:=pl.dG.ne_ins pl.self;have hU:∀w∈ws,w∈U:=λw z=>pl.sup w (hw w z);have l63:U.length<An:=by rw[sizeLine_eq];have:=uo.len;lia
 refine Hf (λds σ hh=>∃w1 w2 a,ws=w1++w2/\ds=w2.map wD/\σ=[some (.ref p),some (.lst (ws.map wD)),some (.ref l),a,none]/\Off [tm] h1 hh/\Dic wD true hh tm (dF c w1)) (λ_ _ _ _=>True.intro) ?_ ?_ _ ⟨[],ws,none,rfl,rfl,rfl,.refl _ _,pl1.dT.eq λw=>by simp[dF]⟩
 . rintro _ _ _ hh N ⟨w1,_ | ⟨v,w2⟩,a,ew,ed,rfl,of,dd⟩ hN
   . cases ed
   cases ed;have v1:v ∉ w1:=λm=>by rw[ew,AZ] at nd;exact nd.2.2 v m v (.head _) rfl
   have vw:v∈ws:=by rw[ew];simp
   dsimp only[FM,OQ];refine Ha rfl ((of.at1 pm).trans pl1.self) rfl (FI rfl (UR key_wish dd v (Ul v1 (hw v vw)) ?_));refine Wo key_wish dd v (Vf pl.sup λw z=>hU w (by rw[ew];exact A1 _ z)) l63 λh' of' dd'=>hN _ _ ⟨w1++[v],w2,some (wD v),by simp[ew],rfl,rfl,of.trans of',dd'.eq WH⟩
 . rintro _ hh ⟨w1,w2,a,ew,ed,rfl,of,dd⟩;have e2:w2=[]:=by cases w2 with | nil=>rfl | cons _ _=>cases ed
   subst e2;rw[A9] at ew;subst ew;dsimp only;have dLh:Dic wD true hh l (gF L):=dL.cg (of.at1 lt.symm);refine HE (d:= .ref l) rfl (TO key_wish (.refl hh) dLh λll h2 C2 u2 o2 nl ml hC2=>?_)
   replace ml:∀x,x∈ll↔x∈L:=λx=>(ml x).trans gF_iff
   have pl_:p≠l:=dL.ne_ins pl1.self;have h2p:h2 p=some (.ins "Pool" [("times",.ref tm),("tops",.ref tp)]):=(o2.at1 pl_).trans ((of.at1 pm).trans pl1.self);refine Hf (λds σ h'=>∃l1 l2 a,ll=l1++l2/\ds=l2.map wD/\σ=[some (.ref p),some (.lst (ws.map wD)),some (.ref l),a,none]/\Off [tm] h2 h'/\Dic wD true h' tm (λw=>if w∈l1 then none else dF c ws w)) (λ_ _ _ z=>hC2 _ (by obtain⟨_,_,_,_,_,_,z,_⟩:=z;exact z.at1 lt.symm)) ?_ ?_ _ ⟨[],ll,a,rfl,rfl,rfl,.refl _ _,(dd.cg (o2.at1 lt)).eq λw=>by simp⟩
   . rintro _ _ _ h3 N ⟨l1,_ | ⟨v,l2⟩,a,ew,ed,rfl,o3,d3⟩ hN
     . cases ed
     cases ed;have v1:v ∉ l1:=λm=>by rw[ew,AZ] at nl;exact nl.2.2 v m v (.head _) rfl
     have vl:v∈L:=(ml v).mp (by rw[ew];simp);dsimp only[FM,IQ];refine Ha rfl ((o3.at1 pm).trans h2p) rfl (FI rfl ?_);refine KI key_wish d3 v (by rw[if_neg v1];unfold dF;rw[if_pos ((mL v).mp vl).1];rfl) λh' of' dd'=>hN _ _ ⟨l1++[v],l2,some (wD v),by simp[ew],rfl,rfl,o3.trans of',dd'.eq λw=>?_⟩;by_cases e:w=v<;>simp[e]
   . rintro _ h3 ⟨l1,l2,a,ew,ed,rfl,o3,d3⟩;have e2:l2=[]:=by cases l2 with | nil=>rfl | cons _ _=>cases ed
     subst e2;rw[A9] at ew;subst ew;dsimp only;obtain⟨hb,ehb⟩:∃hb:Hd,hb=λb=>if b=tm then h3 tm else hh b:=⟨_,rfl⟩
     have bm:hb tm=h3 tm:=by rw[ehb];simp
     have bo:∀b,b≠tm->hb b=hh b:=λb n=>by rw[ehb];simp[n]
     have u3:UnpTo h3 hb:=λb=>by
      by_cases z:b=tm
      . exact .inl (by rw[z,bm])
      . rw[bo b z,o3.at1 z];exact u2 b
     have bT:Dic wD true hb tm (tF (Hk c ws)):=(d3.cg bm).eq λw=>by have:=Ve (c:=c) (ws:=ws) (L:=ll) hw (λv=>by rw[ml,mL]) w;exact this
     have bG:Dic wD true hb tp (gF G):=pl1.dG.cg (by rw[bo tp pl.ne.symm,of.at1 pl.ne.symm]);have bL:Dic wD true hb l (gF L):=dLh.cg (bo l lt.symm);have bp:hb p=some (.ins "Pool" [("times",.ref tm),("tops",.ref tp)]):=(bo p pm).trans ((of.at1 pm).trans pl1.self);refine MH (d:= .ref l) rfl (KL key_wish u3 bL λl3 h4 C4 u4 n3 m3 hC4=>?_)
     replace m3:∀x,x∈l3↔x∈L:=λx=>(m3 x).trans gF_iff
     refine HD wD (λw=>decide (w∈G)) (λσ=>∃o,σ=[o,some (.ref p)]) (hC4 _ rfl) l3 ⟨none,rfl⟩ (λw hw σ acc N ⟨o,es⟩ hN=>?_) ?_
     . subst es;unfold Ho F_ FJ;dsimp only[FM];refine FI rfl (Ha rfl (u4.ins bp) rfl (L0 key_wish u4 bG w ?_));rw[Lb];exact IS (N:=λa=>N [some (wD w),some (.ref p)] a h4) (hN _ ⟨_,rfl⟩)
     rw[A5];have mg:∀x,x∈l3.filter (λw=>decide (w∈G))↔x∈G/\x∈L:=λx=>by rw[A0,m3,decide_eq_true_iff,and_comm]
     have ng:(l3.filter (λw=>decide (w∈G))).Nodup:=n3.filter _;generalize l3.filter (λw=>decide (w∈G))=gs at mg ng;dsimp only[FM];refine Jq u4 ?_;dsimp only[FP,FL];refine IE rfl bp rfl (IE rfl bp rfl (FI rfl ?_));have okG:∀w∈G,WOk w:=λw z=>uo.ok w (pl.inU w z);have dn0:∀v,Hk c ws v≠0↔c v≠0/\v ∉ L:=λv=>by
      rw[mL];unfold Hk;by_cases z:v∈ws
      . have:=hw v z;rw[if_pos z];exact⟨λy=>⟨this,λ⟨_,y2⟩=>by lia⟩,λ⟨_,y⟩=>λy2=>y ⟨z,by lia⟩⟩
      . rw[if_neg z];exact⟨λy=>⟨y,λy2=>z y2.1⟩,λy=>y.1⟩
     refine⟨p,tm,tp,l,tF (Hk c ws),G,L,U,rfl,bp,bT,bG,bL,uo.ok,λw z=>Q6 pl.sup w (tF_iff.mp z),pl.inU,λw z=>pl.sup w (by rw[((mL w).mp z).2];decide),λR qs hR tq=>?_⟩;have hR':∀v,v∈R↔c v≠0/\v ∉ L/\(∃g∈G,g∈L/\Gg g v=true/\g≠v)/\∀s∈G,s ∉ L->Gg s v=true->s=v:=λv=>by rw[hR,tF_iff,dn0];exact⟨λ⟨⟨a,b⟩,_,d⟩=>⟨a,b,d⟩,λ⟨a,b,d⟩=>⟨⟨a,b⟩,b,d⟩⟩
     have qR:∀v∈qs,v∈R:=λv hv=>((tq.mem v).mp hv).1;have mS:∀v,v∈G.filter (λw=>!decide (w∈L))↔v∈G/\v ∉ L:=λv=>by rw[A0];simp
     have top:IsTop (HI U (Hk c ws)) (G.filter (λw=>!decide (w∈L))++qs):=QK uo pl.top pl.sup dn0 mS (pl.top.nd.filter _) hR' tq;have qG:∀v∈qs,v ∉ G:=λv hv=>ZI pl.top pl.sup (λv=>(hR' v).mp) (qR v hv);have okq:∀w∈qs,WOk w:=λw hm=>uo.ok w (pl.sup w ((hR' w).mp (qR w hm)).1);have lq:qs.length<=63:=At (He _ _ tq.nd λw hm=>pl.sup w ((hR' w).mp (qR w hm)).1) uo.len;refine FI rfl ?_;refine⟨p,tm,tp,G,qs,gs,rfl,bp,bG,okG,okq,ng,λg hg=>((mg g).mp hg).1,MB uo pl.top,lq,λcs' gs' h' p1 p2 s1 s2 of' dd'=>⟨cut h' l,Le.cut,?_⟩⟩;have mT:∀v,v∈G.filter (λw=>!decide (w∈L))++qs↔(v∈G/\v ∉ L)\/v∈qs:=λv=>by rw[Aq,mS]
     refine q cs' gs' (G.filter (λw=>!decide (w∈L))++qs) _ (λb hbn=>?_) ⟨?_,?_,(dd'.cg (Ki lp)).eq λw=>?_,pl.ne,top,Q6 pl.sup⟩ ⟨s1,s2,p1.nodup_iff.mpr tq.nd,p2.nodup_iff.mpr ng,λv=>?_,λv=>?_⟩
     . by_cases z:b=l
       . rw[z,NJ,hl]
       . simp only[Ag,AC,or_false,not_or] at hbn;rw[Ki z,of'.at1 hbn.2,bo b hbn.1,of.at1 hbn.1,<-eh1,FR z]
     . rw[Ki pl_,of'.at1 pt];exact bp
     . exact(bT.cg (of'.at1 pl.ne)).cg (Ki lt)
     . unfold gF;simp only[mT];by_cases z1:w∈qs<;>by_cases z3:w∈G<;>by_cases z2:w∈L<;>simp[z1,z2,z3,mg]
     . rw[p1.mem_iff,mT];exact⟨λz=>⟨.inr z,qG v z⟩,λ⟨z,n⟩=>z.resolve_left λy=>n y.1⟩
     . rw[p2.mem_iff,mT,mg];constructor
       . exact λ⟨z1,z2⟩=>⟨z1,λy=>y.elim (λy=>y.2 z2) λy=>qG v y z1⟩
       . exact λ⟨z,n⟩=>⟨z,AE λy=>n (.inl ⟨z,y⟩)⟩)
theorem d48:Ge p Sv:=Gk Gi (by walk_at "x5") (by walk_at "b3") "@e?jr1a0a1a2enAtjr1a0a1f?r1a0a1me?jr1a0a2a1fnAtjr1a0a2f?r1a0a2m" (by
 rintro ds h k e ⟨s,lab,hb,x,w,rfl,sh,hxw,q⟩;have half:∀h2,Nst D.str false wD true .bh .hold h2 lab s.bh (G8 hb x w false)->FrB lab h h2->(∀c,J2 (lab c)=true->∃o,h2 c=some o/\∀xs,o≠ .lst xs)->(∀c,(lab c=some .bw\/∃v,lab c=some (.held v))->h2 c=h c)->GA (IQ (FJ Gn (Hl "Shelf" "by_wish" (FN 0)) (FN 2)) (FN 1)) (G4 (Gj (Gc (FJ Gn (Hl "Shelf" "by_wish" (FN 0)) (FN 2)))) (IQ (Hl "Shelf" "by_wish" (FN 0)) (FN 2)) GY) (HR k e) [some (.ref s.a),some (.str x),some (wD w)] h2:=by
  intro h2 nB2 fr2 cov2 keep2;have nW:=sh.nW.keep (h':=h2) (λ_ _ z=>z) keep2;have self2:=(fr2 s.a (by rw[sh.la];rfl)).trans sh.self;obtain⟨W,d,dW,wx,ld,ad,dd⟩:=nW.at_ O9 (x:=w) (y:=x) hxw;refine P0 ?_;unfold FJ;refine Ha rfl self2 rfl (FI rfl (KW key_wish dW w wx (FI rfl (KI Iw dd x (by rw[IZ];exact hxw) λh3 o3 d3=>?_))));have sd:s.a≠d:=by rintro z;rw[<-z,sh.la] at ld;cases ld
  have dW3:=dW.cg (o3.at1 ad);have self3:=(o3.at1 sd).trans self2;have fin:∀h4,(((∃z,G8 (λw x=>hb x w) w x false w z=true)/\h4=h3)\/((∀z,G8 (λw x=>hb x w) w x false w z=false)/\Off [s.bw] h3 h4/\Dic wD true h4 s.bw (λz=>if z=w then none else W z)))->Ja k .non h4:=by
   intro h4 hc;have nW4:=nW.out O9 Tt dW wx ld ad o3 d3 hc;rw[RJ] at nW4;have off:∀c,c≠d->c≠s.bw->h4 c=h2 c:=λc n1 n2=>by
    rcases hc with⟨_,z⟩ | ⟨_,z,_⟩
    . rw[z];exact o3.at1 n1
    . rw[z.at1 n2];exact o3.at1 n1
   have fr4:FrB lab h h4:=λc z=>by rw[off c (by rintro rfl;rw[ld] at z;cases z) (by rintro rfl;rw[nW.lr] at z;cases z)];exact fr2 c z
   have nB4:=nB2.keep (h':=h4) (λ_ _ z=>z) λc z=>off c (by rintro rfl;rw[ld] at z;rcases z with z | ⟨_,z⟩<;>cases z) (by rintro rfl;rw[nW.lr] at z;rcases z with z | ⟨_,z⟩<;>cases z)
   refine Gb (q h4 (sh.mk' (λ_ _ z=>z) fr4 (λc z=>?_) (λc z y=>(y z).elim) nB4 nW4) fr4);by_cases n1:c=s.bw
   . obtain⟨_,y,_⟩:=nW4.ex;rw[n1];exact y.dct
   . by_cases n2:c=d
     . have:h4 d=h3 d:=by
        rcases hc with⟨_,y⟩ | ⟨_,y,_⟩
        . rw[y]
        . exact y.at1 ad.symm
       rw[n2,this];exact d3.dct
     . rw[off c n2 n1];exact cov2 c z
  unfold G4 Gj Gc;dsimp only;refine Ha rfl self3 rfl (FI rfl (KW key_wish dW3 w wx ?_));obtain⟨ys,vs,e3,nd,m3,_,_⟩:=d3.row Iw;simp only[Hp,e3];have m3':∀y,y∈ys↔G8 (λw x=>hb x w) w x false w y=true:=λy=>by rw[m3,NC,IZ];unfold G8;by_cases e:y=x<;>simp[e]
  cases ys with
  | nil=>
   have em:∀z,G8 (λw x=>hb x w) w x false w z=false:=λz=>by
    cases ez:G8 (λw x=>hb x w) w x false w z with
    | false=>rfl
    | true=>cases(m3' z).mpr ez
   show IQ (Hl "Shelf" "by_wish" (FN 0)) (FN 2) _ _ _;dsimp only[IQ];refine Ha rfl self3 rfl (FI rfl (KI key_wish dW3 w (by rw[wx];rfl) λh4 o4 d4=>fin h4 (.inr ⟨em,o4,d4⟩)))
  | cons y ys=>exact fin h3 (.inl ⟨⟨y,(m3' y).mp (.head _)⟩,rfl⟩)
 obtain⟨B,d,dB,bx,ld,ad,dd⟩:=sh.nB.at_ OA (x:=x) (y:=w) hxw;refine P0 ?_;unfold FJ;refine Ha rfl sh.self rfl (FI rfl (KW Iw dB x bx (FI rfl (KI key_wish dd w (by rw[IZ];exact hxw) λh1 o1 d1=>?_))));have sd:s.a≠d:=by rintro z;rw[<-z,sh.la] at ld;cases ld
 have dB1:=dB.cg (o1.at1 ad);have self1:=(o1.at1 sd).trans sh.self;have fin:∀h2,(((∃z,G8 hb x w false x z=true)/\h2=h1)\/((∀z,G8 hb x w false x z=false)/\Off [s.bh] h1 h2/\Dic D.str false h2 s.bh (λz=>if z=x then none else B z)))->GA (IQ (FJ Gn (Hl "Shelf" "by_wish" (FN 0)) (FN 2)) (FN 1)) (G4 (Gj (Gc (FJ Gn (Hl "Shelf" "by_wish" (FN 0)) (FN 2)))) (IQ (Hl "Shelf" "by_wish" (FN 0)) (FN 2)) GY) (HR k e) [some (.ref s.a),some (.str x),some (wD w)] h2:=by
  intro h2 hc;have nB2:=sh.nB.out OA Tu dB bx ld ad o1 d1 hc;have off:∀c,c≠d->c≠s.bh->h2 c=h c:=λc n1 n2=>by
   rcases hc with⟨_,z⟩ | ⟨_,z,_⟩
   . rw[z];exact o1.at1 n1
   . rw[z.at1 n2];exact o1.at1 n1
  refine half h2 nB2 (λc z=>off c (by rintro rfl;rw[ld] at z;cases z) (by rintro rfl;rw[sh.nB.lr] at z;cases z)) (λc z=>?_) λc z=>off c (by rintro rfl;rw[ld] at z;rcases z with z | ⟨_,z⟩<;>cases z) (by rintro rfl;rw[sh.nB.lr] at z;rcases z with z | ⟨_,z⟩<;>cases z)
  by_cases n1:c=s.bh
  . obtain⟨_,y,_⟩:=nB2.ex;rw[n1];exact y.dct
  . by_cases n2:c=d
    . have:h2 d=h1 d:=by
       rcases hc with⟨_,y⟩ | ⟨_,y,_⟩
       . rw[y]
       . exact y.at1 ad.symm
      rw[n2,this];exact d1.dct
    . rw[off c n2 n1];exact sh.cov c λy=>by rw[y] at z;cases z
 refine Ii ?_;unfold Gj Gc;dsimp only;refine Ha rfl self1 rfl (FI rfl (KW Iw dB1 x bx ?_));obtain⟨ys,vs,e3,nd,m3,_,_⟩:=d1.row key_wish;simp only[Hp,e3];have m3':∀y,y∈ys↔G8 hb x w false x y=true:=λy=>by rw[m3,NC,IZ];unfold G8;by_cases e:y=w<;>simp[e]
 cases ys with
 | nil=>
  have em:∀z,G8 hb x w false x z=false:=λz=>by
   cases ez:G8 hb x w false x z with
   | false=>rfl
   | true=>cases(m3' z).mpr ez
  show IQ (Hl "Shelf" "by_holder" (FN 0)) (FN 1) _ _ _;dsimp only[IQ];refine Ha rfl self1 rfl (FI rfl (KI Iw dB1 x (by rw[bx];rfl) λh4 o4 d4=>fin h4 (.inr ⟨em,o4,d4⟩)))
 | cons y ys=>exact fin h1 (.inl ⟨⟨y,(m3' y).mp (.head _)⟩,rfl⟩))
theorem d49:Ge p Su:=Gk Gi (by walk_at "x8") (by walk_at "b3") "@eFgEba1ceFgOba2ceyla2p3fnAtJ1Z13a0ba1ba3cf`meyla2p3fFJ1Z18a0ba1ba3cfhJ0Z17r1a0ba2c" (by
 rintro ds h k e ⟨s,lab,hb,hs,U,G,x,ws,rfl,sh,okx,hx,nd,hw,q⟩;have hU:∀w∈ws,w∈U:=λw z=>(hw w z).1;have l63:=sh.uo.len;have l200:=sh.len;refine La ⟨x,rfl,okx,?_⟩;refine La ⟨ws,rfl,λw z=>sh.uo.ok w (hU w z),nd,At (He _ _ nd hU) l63,?_⟩;refine HE (d:= .lst (ws.map wD)) rfl (Hc ?_);refine Hf (λds σ h'=>h'=h/\∃w2 a,(∀w∈w2,w∈ws)/\ds=w2.map wD/\σ=[some (.ref s.a),some (.str x),some (.lst (ws.map wD)),a]) (λ_ _ _ _=>True.intro) ?_ ?_ _ ⟨rfl,ws,none,λ_ z=>z,rfl,rfl⟩
 . rintro _ _ _ _ N ⟨rfl,_ | ⟨v,w2⟩,a,sub,ed,rfl⟩ hN
   . cases ed
   cases ed;dsimp only[FM,G4,Gc,Gj,FL];refine IE rfl sh.b.self rfl (FI rfl (FI rfl ⟨s,lab,hb,x,v,rfl,sh.b,?_⟩));rw[(hw v (sub v (.head _))).2];exact hN _ _ ⟨rfl,w2,some (wD v),λw z=>sub w (.tail _ z),rfl,rfl⟩
 . rintro _ h' ⟨eh,w2,a,sub,ed,rfl⟩;rw[eh];dsimp only;refine HE (d:= .lst (ws.map wD)) rfl (Hc ?_);refine Hf (λds σ hh=>∃w1 w2 a lab1,ws=w1++w2/\ds=w2.map wD/\σ=[some (.ref s.a),some (.str x),some (.lst (ws.map wD)),a]/\ShB hh lab1 s (GX hb x w1 false)/\Ext lab lab1 h/\FrB lab1 h hh) (λ_ _ _ _=>True.intro) ?_ ?_ _ ⟨[],ws,a,lab,rfl,rfl,rfl,by rw[RI];exact sh.b,.refl _ _,λ_ _=>rfl⟩
   . rintro _ _ _ hh N ⟨w1,_ | ⟨v,w2⟩,a,lab1,ew,ed,rfl,sh1,ex1,fr1⟩ hN
     . cases ed
     cases ed;have v1:v ∉ w1:=λm=>by rw[ew,AZ] at nd;exact nd.2.2 v m v (.head _) rfl
     have vw:v∈ws:=by rw[ew];simp
     dsimp only[FM,Iu,FL];refine IE rfl sh1.self rfl (FI rfl (FI rfl ?_));refine⟨s,lab1,GX hb x w1 false,x,v,rfl,sh1,?_,λh' sh' fr'=>hN _ _ ⟨w1++[v],w2,some (wD v),lab1,by simp[ew],rfl,rfl,?_,ex1,fr1.trans fr' λ_ _ z=>z⟩⟩
     . unfold GX;rw[if_pos rfl,if_neg v1];exact(hw v vw).2
     . rw[<-Sg];exact sh'
   . rintro _ hh ⟨w1,w2,a,lab1,ew,ed,rfl,sh1,ex1,fr1⟩;have e2:w2=[]:=by cases w2 with | nil=>rfl | cons _ _=>cases ed
     subst e2;rw[A9] at ew;subst ew;dsimp only[FP,FL];have pl1:PlAt hh s.pa s.tm s.tp (Gs hs hb) G U:=sh.pl.cg (fr1 _ (by rw[sh1.lp];rfl)) (fr1 _ (by rw[sh1.lt];rfl)) (fr1 _ (by rw[sh1.lg];rfl));refine NZ rfl sh1.self rfl pl1.self rfl (FI rfl ?_);refine⟨s.pa,s.tm,s.tp,Gs hs hb,G,U,ws,rfl,pl1,sh.uo,nd,λw z=>cnt_pos.mpr ⟨x,hx,(hw w z).2⟩,λcs gs G' h' of pl' told=>Gb ?_⟩;have ec:Hk (Gs hs hb) ws=Gs hs (GX hb x ws false):=funext λv=>by unfold Hk;rw[Ym sh.nd hx λv z=>(hw v z).2]
     rw[ec] at pl';refine q cs gs G' lab1 h' ⟨sh1.pool of pl',pl',sh.uo,sh.nd,sh.len,NN sh.sup hx hU⟩ ex1 (λc hc=>?_) told;rw[of c λm=>?_]
     . exact fr1 c (by rw[hc];rfl)
     . simp only[Ag,AC,or_false] at m;rcases m with m | m
       . rw[m,sh1.lt] at hc;cases hc
       . rw[m,sh1.lg] at hc;cases hc)
theorem d50:Ge p Ss:=O4 (L:=0) Gi (by intro n;intro ds h k e q;match ds,q with | [_,_],_=>rfl) (by walk_at "b2") λn S0 hS=>⟨λFH=>"@ent9rba1bDb|b{ccenEQAt9rba0bDb|b{ccUOHba0b|cHba1b|cfhzmfhX}vba0cvba1cI,bkxk,found,due;_01;Zbvba1ccq0M9Hbja1a0bja2a0ccmenEQ!a1uU!a0ufhX*a1uI*a0umenEQOHba1b9dcHba0b9dcUOHba1b9ccHba0b9ccfhzmfhX}Hba0b0cHba1b0cI}a0a1",(by
 intro ds h k e q
 replace q:=l2 q;obtain⟨x,y,rfl,exy,cl,qk⟩:=q
 subst exy;cases x with
 | non=>exact Gb qk
 | int i=> refine(show Ja k (.bl (i==i)) h from ?_);rw[beq_self_eq_true];exact Gb qk
 | str i=> refine(show Ja k (.bl (i==i)) h from ?_);rw[beq_self_eq_true];exact Gb qk
 | tup xs=>
  match n,cl with
  | m+1,cl=>
   rw[cln,Ae,clns_iff] at cl;have l:=CF.mp cl.1;refine FZ (b:=((xs.length:Int)==(xs.length:Int))) (beq_self_eq_true _) ?_;refine⟨⟨by lia,by lia⟩,?_⟩;refine IY (λi:Nat=>D.int (0+(i:Nat))) (λ_=> .bl true) (λσ=>∃o,σ=[o,some (.tup xs),some (.tup xs)]) True.intro (A6 ((xs.length:Int)).toNat) ⟨none,rfl⟩ (λi hi σ acc N ⟨o,es⟩ hN=>?_) (JZ (Gb qk));subst es;have hi:i<xs.length:=by simpa using hi
   unfold Ho;dsimp only[FM,HL,cond_true,FV,FL,FK,FJ];rw[EH];have e0:=hS m rfl;subst e0;refine FI (d:= .tup xs) rfl (FI rfl (Jf (Ap hi) (FI (d:= .tup xs) rfl (FI rfl (Jf (Ap hi) ?_)))));exact⟨rfl,cl.2 _ (AI hi),hN _ ⟨_,rfl⟩⟩
  | 0,cl=>simp[cln] at cl
 | lst xs=>
  match n,cl with
  | m+1,cl=>
   rw[cln,Ae,clns_iff] at cl;have l:=CF.mp cl.1;refine FZ (b:=((xs.length:Int)==(xs.length:Int))) (beq_self_eq_true _) ?_;refine⟨⟨by lia,by lia⟩,?_⟩;refine IY (λi:Nat=>D.int (0+(i:Nat))) (λ_=> .bl true) (λσ=>∃o,σ=[o,some (.lst xs),some (.lst xs)]) True.intro (A6 ((xs.length:Int)).toNat) ⟨none,rfl⟩ (λi hi σ acc N ⟨o,es⟩ hN=>?_) (JZ (Gb qk));subst es;have hi:i<xs.length:=by simpa using hi
   unfold Ho;dsimp only[FM,HL,cond_true,FV,FL,FK,FJ];rw[EH];have e0:=hS m rfl;subst e0;refine FI (d:= .lst xs) rfl (FI rfl (Hj (Ap hi) (FI (d:= .lst xs) rfl (FI rfl (Hj (Ap hi) ?_)))));exact⟨rfl,cl.2 _ (AI hi),hN _ ⟨_,rfl⟩⟩
  | 0,cl=>simp[cln] at cl
 | bl b=>simp[cln] at cl
 | exc b=>simp[cln] at cl
 | ty b=>simp[cln] at cl
 | gl b=>simp[cln] at cl
 | ref b=>simp[cln] at cl)⟩
theorem d51:Ge p Sr:=Gk Gi (by walk_at "m1") (by walk_at "b1") "@fnAtgLba0cf`m" (by
 intro ds h k e q
 replace q:=l1 q;obtain⟨x,rfl,w,ex,ok,q⟩:=q
 subst ex;exact⟨w,rfl,ok,Gb q⟩)
theorem d52:Ge p Sp:=Gk Gi (by walk_at "x7") (by walk_at "b2") "@eFgZ1;ba1cfhk5b9fr1a0a1_c" (by
 rintro ds h k e ⟨s,lab,hb,hs,U,G,w,rfl,sh,okw,l63,q⟩;refine La ⟨w,rfl,okw,?_⟩;dsimp only[FP,FY,JM,FL,FK];obtain⟨W,dW,n0,n1⟩:=sh.b.nW.ex;refine Og key_wish dW w (λk' z=>Ha rfl sh.b.self rfl z) (λk' z=>FI rfl z) λp hp=>?_;cases ew:W w with
 | none=> refine Ry (xs:=[]) (vs:=[]) put_same (by decide) λms pm so=>⟨h,Le.put hp,?_⟩;have:=List.perm_nil.mp pm;subst this;exact q [] .nil so λx=>by rw[n0 w ew x];simp
 | some v=> obtain⟨_,d,rfl,e2,e3⟩:=n1 w v ew;obtain⟨xs,vs,e4,nd,m,_,_⟩:=(e3.cg (h':=put h p (.dct false [] [])) (FR (e3.ne_none hp))).row Iw;have mU:∀x∈xs,x∈hs:=λx z=>(sh.sup x w (by rw[<-IZ (p:=λy=>hb y w)];exact(m x).mp z)).1;refine Ry e4 (by have:=He _ _ nd mU;lia) λms pm so=>⟨h,Le.put hp,q ms (pm.nodup_iff.mpr nd) so λx=>?_⟩;rw[pm.mem_iff,m,IZ])
theorem d53:Ge p So:=Gk Gi (by walk_at "x7") (by walk_at "b2") "@eFgEba1cfhgSb2r1a0a1=c" (by
 rintro ds h k e ⟨s,lab,hb,hs,U,G,x,rfl,sh,okx,q⟩;refine La ⟨x,rfl,okx,?_⟩;dsimp only[FP,FV,FL];obtain⟨B,dB,n0,n1⟩:=sh.b.nB.ex;refine Og Iw dB x (λk' z=>Ha rfl sh.b.self rfl z) (λk' z=>FI rfl z) λp hp=>?_;cases ew:B x with
 | none=> refine⟨[],Nr put_same,(λ_ z=>by cases z),by decide,λrs pr sr=>⟨h,Le.put hp,?_⟩⟩;have:=List.perm_nil.mp pr;subst this;exact q [] .nil sr λw=>by rw[n0 x ew w];simp
 | some v=> obtain⟨_,d,rfl,e2,e3⟩:=n1 x v ew;obtain⟨xs,vs,e4,nd,m,_,_⟩:=(e3.cg (h':=put h p (.dct true [] [])) (FR (e3.ne_none hp))).row key_wish;have mU:∀w∈xs,w∈U:=λw z=>(sh.sup x w (by rw[<-IZ (p:=hb x)];exact(m w).mp z)).2;refine⟨xs,Nr e4,λw z=>sh.uo.ok w (mU w z),At (He _ _ nd mU) sh.uo.len,λrs pr sr=>⟨h,Le.put hp,q rs (pr.nodup_iff.mpr nd) sr λw=>?_⟩⟩;rw[pr.mem_iff,m,IZ])
theorem d54:Ge p Sn:=Gk Gi (by walk_at "x9") (by walk_at "b5") "@enGa4deC5kwceyla1p6fC5oa5ja1a6f#h}9I10ba0cvbkxwish,some;_5;la3q0B1a0a1a0cmen9Ja4vba2cei6ja2)a4dfhgZ1:bJ1Z1=a0ba6cbk9m?b2a1a6kwcccmeC7ja3))a4dvba2cei8k5bkxholder,book,wish;_17;la1q0B1a2ja1a0a0cf#hgZ1:bJ1Z1<a0ba7cba8c" (by
 rintro ds h k e ⟨s,lab,hs,hL,U,G,d,bk,i,rfl,sh,B,ok,okh,l63,i0,i1,q⟩;have lU:=sh.uo.len;refine Ii ?_;dsimp only[F_,FJ,dC];refine FI rfl (GZ ?_);rcases Az (i==0) with hi | hi
 . refine FZ (b:=(i==0)) hi ?_;refine FX ?_;dsimp only[FY,FK,sz,FM];refine HE (d:= .ref d) rfl (Kj B.at' λep=>?_);refine Hf (λds σ hh=>hh=put h d (.wlk false ep (bk.map λr=> .str r.1) (bk.map λr=> .lst (r.2.map wD)))/\∃(b1 b2:Bk)(ws:List (List WP))(a:Option D),bk=b1++b2/\ds=b2.map (λr=>D.str r.1)/\σ=[some (.ref s.a),some (.ref d),some (.lst (hL.map .str)),some (.lst (U.map wD)),some (.int i),some (.lst (ws.map wD)),a,none,none]/\(ws.length<=(b1.flatMap (·.2)).length)/\∀v,v∈ws↔∃r∈b1,v∈r.2) (λ_ _ _ z=>by rw[z.1];exact put_same) ?_ ?_ _ ⟨rfl,[],bk,[],none,rfl,rfl,rfl,Al _,λv=>by simp⟩
   . rintro _ _ _ hh N ⟨eh,b1,_ | ⟨r,b2⟩,ws,a,eb,ed,rfl,lw,mw⟩ hN
     . cases ed
     cases ed;have lk:G7 (bk.map λr=>D.str r.1) (bk.map λr=> .lst (r.2.map wD)) (.str r.1)=some (.lst (r.2.map wD)):=L6 B.nd (by rw[eb];simp);have lt:=ok.tot;have tl:(b1.flatMap (·.2)).length+r.2.length<=10000:=by rw[eb,CB,Ah,CM,Ah] at lt;lia
     dsimp only[FM,Go,FJ];refine FI rfl (FI rfl (FI rfl (L3 (.inr ⟨ep,by rw[eh];exact put_same⟩) rfl lk ?_)));refine⟨by rw[Ac,Ac,sizeLine_eq];lia,?_⟩;rw[<-AS];refine hN _ _ ⟨eh,b1++[r],b2,ws++r.2,_,by simp[eb],rfl,rfl,?_,λv=>?_⟩
     . rw[CB,Ah,Ah,CM,List.flatMap_nil,A9];lia
     . rw[Aq,mw];constructor
       . rintro(⟨y,hy,z⟩ | z)
         . exact⟨y,A1 _ hy,z⟩
         . exact⟨r,by simp,z⟩
       . rintro⟨y,hy,z2⟩;rcases Aq.mp hy with hy | hy
         . exact .inl ⟨y,hy,z2⟩
         . rw[Af.mp hy] at z2;exact .inr z2
   . rintro _ hh ⟨eh,b1,b2,ws,a,eb,ed,rfl,lw,mw⟩;have e2:b2=[]:=by cases b2 with | nil=>rfl | cons _ _=>cases ed
     subst e2;rw[A9] at eb;subst eb;refine Jq (h':=h) (by rw[eh];exact UnpTo.one B.at') ?_;dsimp only[FP,FJ,Gh,FL,FK];have okw:∀w∈ws,WOk w:=λw hw=>by obtain⟨r,hr,z⟩:=(mw w).mp hw;exact sh.uo.ok w (ok.inU r hr w z)
     refine FI (d:= .ref s.a) rfl ⟨JA sh.b.self True.intro,s,lab,_,hs,U,G,rfl,sh,λks nk mk=>?_⟩;have lk:ks.length<=63:=At (He _ _ nk λw hw=>by obtain⟨x,hx⟩:=(mk w).mp hw;exact(sh.sup x w hx).2) lU;refine⟨by lia,by lia,?_⟩;dsimp only[FY,Hq];refine IF (d:= .lst (U.map wD)) rfl (Hc ?_);refine HD wD (λw=>decide (w∈ws)) (λσ=>∃o,σ=[o,some (.lst (ws.map wD))]) True.intro U ⟨none,rfl⟩ (λw hw σ acc N ⟨o,es⟩ hN=>?_) ?_
     . subst es;unfold Ho;dsimp only[FM,F_,FJ];refine FI rfl (FI rfl (IJ okw (sh.uo.ok w hw) ?_));exact IS (N:=λa=>N [some (wD w),some (.lst (ws.map wD))] a h) (hN _ ⟨_,rfl⟩)
     . rw[A5];refine(GZ ?_:Ip false (.int ks.length) (.int (((U.filter λw=>decide (w∈ws)).map wD).length:Int)) h _);have el:ks.length=((U.filter λw=>decide (w∈ws)).map wD).length:=by
        rw[Ac];refine((BU nk (sh.uo.nd.filter _)).mpr λw=>?_).length_eq;rw[mk,A0,decide_eq_true_iff,mw];constructor
        . rintro⟨x,hx⟩;obtain⟨r,hr,_,z⟩:=heldB_iff.mp hx;exact⟨(sh.sup x w hx).2,r,hr,z⟩
        . rintro⟨_,r,hr,z⟩;exact⟨r.1,heldB_iff.mpr ⟨r,hr,rfl,z⟩⟩
       rw[<-el];refine Gb ?_;show k (.bl ((ks.length:Int)==(ks.length:Int))) h;rw[beq_self_eq_true];exact q
 . refine Gy (b:=(i==0)) hi ?_;have i1':1<=i:=by
    have:i≠0:=by simpa using hi
    lia
   dsimp only[GY];refine Ii ?_;dsimp only[F_,FJ,Gh,FL,FK];refine FI rfl (FI rfl ?_);rcases Az (decide (i<=((hL.map D.str).length:Int))) with h2 | h2
   . refine FZ (b:=decide (i<=((hL.map D.str).length:Int))) h2 ?_;have h2':i<=hL.length:=by simpa using h2
     refine FX ?_;dsimp only[FJ,dC];refine FI rfl (FI rfl ?_);obtain⟨j,hj⟩:∃j:Nat,i - 1=(j:Int):=⟨(i - 1).toNat,by lia⟩;have hj2:j<hL.length:=by lia
     show Gn (.lst (hL.map .str)) (.int (i - 1)) h _;rw[hj];refine Hj (d:= .str hL[j]) (by rw[AB,Ap hj2];rfl) ?_;have okx:=okh _ (AI hj2);generalize hL[j]=x at okx;dsimp only[FM,FP,FV,FL,FK];refine IE rfl sh.b.self rfl (FI rfl ⟨s,lab,_,hs,U,G,x,rfl,sh,okx,λrs nr sr mr=>?_⟩);dsimp only[FY,KU,FL,FK];show Lr false (FN 1) (FN 6) (dC (.lst [])) _ _ _ _;refine On Iw B.dic x (λk' z=>FI rfl z) (λk' z=>FI rfl z) ?_;have eg:((Gx bk x).map λws=>D.lst (ws.map wD)).getD (.lst [])= .lst (((Gx bk x).getD []).map wD):=by cases Gx bk x<;>rfl
     rw[eg];have mh:∀v,HG bk x v=decide (v∈(Gx bk x).getD []):=RF B.nd;have nw:((Gx bk x).getD []).Nodup:=by
      cases ew:Gx bk x with
      | none=>exact .nil
      | some ws=>exact ok.nd _ (MM ew)
     generalize(Gx bk x).getD []=ws at mh nw;have wU:∀w∈ws,w∈U:=λw hw=>(sh.sup x w (by rw[mh];simpa using hw)).2;have main:J6 63 NL (ws.map wD) h λys=>Nj 5 QP [.lst (rs.map wD),.lst ys] h (HR k e).rt ((HR k e).xc (List.set (Ju ["shelf","book","holders_now","pool","k","some","holder","wish","due"] [.ref s.a,.ref d,.lst (hL.map .str),.lst (U.map wD),.int i]) 6 (some (.str x)))):=PH (At (He _ _ nw wU) lU) (λw hw=>⟨w,rfl,At (sh.uo.ok w (wU w hw)).len (by decide),rfl,λ_ _ z=>z⟩) λys py sy=>by
      have e:rs=ys:=Oc sr sy nr (py.nodup_iff.mpr nw) λv=>by rw[mr,py.mem_iff,mh];simp
      subst e;refine⟨3,by decide,rfl,Lx (λw hw=>sh.uo.ok w (wU w (py.mem_iff.mp hw))) ?_,Gb q⟩;rw[py.length_eq];have:=He _ _ nw wU;lia
     exact main
   . refine Gy (b:=decide (i<=((hL.map D.str).length:Int))) h2 ?_;have h2':(hL.length:Int)<i:=by simpa using h2
     dsimp only[GY];refine FX ?_;dsimp only[FJ,dC,Gh,FL,FK];refine FI rfl (FI rfl ?_);dsimp only[HH,HV];refine FI rfl ?_;obtain⟨j,hj⟩:∃j:Nat,i - 1 - (hL.length:Int)=(j:Int):=⟨(i - 1 - hL.length).toNat,by lia⟩;have hj2:j<U.length:=by lia
     show Gn (.lst (U.map wD)) (.int (i - 1 - ((hL.map D.str).length:Int))) h _;rw[Ac,hj];refine Hj (d:=wD U[j]) (by rw[AB,Ap hj2];rfl) ?_;have okw:=sh.uo.ok _ (AI hj2);generalize U[j]=w at okw
     try dsimp only[FM]
     refine FX ?_;dsimp only[FY,JM,FL,FK,Hq];refine IF (d:= .ref d) rfl (Kj B.at' λep=>?_);refine HD (λr:Str×List (List WP)=>D.str r.1) (λr=>decide (w∈r.2)) (λσ=>∃o,σ=[o,some (.ref d),some (wD w)]) put_same bk ⟨none,rfl⟩ (λr hr σ acc N ⟨o,es⟩ hN=>?_) ?_
     . subst es;unfold Ho;dsimp only[FM,F_,FJ];refine FI rfl (FI rfl (FI rfl (L3 (.inr ⟨ep,put_same⟩) rfl (L6 B.nd hr) (IJ (λv hv=>sh.uo.ok v (ok.inU r hr v hv)) okw ?_))));exact IS (N:=λa=>N [some (.str r.1),some (.ref d),some (wD w)] a _) (hN _ ⟨_,rfl⟩)
     rw[A5];have em:(bk.filter λr=>decide (w∈r.2)).map (λr=>D.str r.1)=((bk.filter λr=>decide (w∈r.2)).map (·.1)).map D.str:=by rw[B8];rfl
     have nb:((bk.filter λr=>decide (w∈r.2)).map (·.1)).Nodup:=B.nd.sublist (List.Sublist.map _ (Ef ..));have mb:∀x,x∈(bk.filter λr=>decide (w∈r.2)).map (·.1)↔HG bk x w=true:=λx=>by
      rw[heldB_iff];constructor
      . intro z;obtain⟨r,hr,rfl⟩:=AG.mp z;have:=A0.mp hr;exact⟨r,this.1,rfl,by simpa using this.2⟩
      . rintro⟨r,hr,rfl,z⟩;exact BF (A0.mpr ⟨hr,by simpa using z⟩)
     rw[em];generalize(bk.filter λr=>decide (w∈r.2)).map (·.1)=xs at nb mb;simp only[KP,GW,seqL,LF,JI];refine⟨?_,λms pm sm=>?_⟩
     . have:=He _ _ nb λx hx=>(sh.sup x w ((mb x).mp hx)).1;lia
     try dsimp only[FM]
     refine Jq (h':=h) (UnpTo.one B.at') ?_;dsimp only[FP,FV,FL,FK];refine IE rfl sh.b.self rfl (FI rfl ⟨s,lab,_,hs,U,G,w,rfl,sh,okw,l63,λts nt st mt=>?_⟩);have e:ts=ms:=YV (Oq st nt) (Oq sm (pm.nodup_iff.mpr nb)) λx=>by rw[mt,pm.mem_iff,mb]
     subst e;refine FI rfl ⟨1,by decide,rfl,Qc ?_ λy hy=>?_,Gb q⟩
     . rw[Ac,pm.length_eq];have:=He _ _ nb λx hx=>(sh.sup x w ((mb x).mp hx)).1;lia
     . obtain⟨t,_,rfl⟩:=AG.mp hy;simp[cln])
theorem d55:Ge p Sm:=Gk Gi (by walk_at "x7") (by walk_at "b2") "@eC29pwish,self;_0;la1q0BGjr0a1a0da0ze.wish,lost;_2;3lr0a0q0BRa0a1a0f#hgSboa3J0Z16a0ba2cc" (by
 rintro ds h k e ⟨p,tm,tp,c,G,U,ws,rfl,pl,uo,hw,q⟩;refine FX ?_;dsimp only[L_];refine IF (d:= .lst (ws.map wD)) rfl (Hc ?_);refine KZ (λd=>((c (Iz d):Int)==1)) (λd=>d) (λ_=> .bl true) (λσ=>∃o,σ=[o,some (.ref p)]) True.intro (ws.map wD) ⟨none,rfl⟩ (λd hd σ ks vs N ⟨o,es⟩ hN=>?_) ?_
 . subst es;obtain⟨w,hm,rfl⟩:=AG.mp hd;unfold K7 F_ FJ;dsimp only[FM];refine Ha rfl pl.self rfl (FI rfl (KW key_wish pl.dT w (d:= .int (c w)) (by simp[tF,hw w hm]) ?_));have:=hN [some (wD w),some (.ref p)] ⟨_,rfl⟩;rw[Jv] at this;show bif ((c w:Int)==1) then(G3 true (wD w)=true/\N _ _ _ h) else N _ _ _ h
   cases eb:((c w:Int)==1)<;>rw[eb] at this
   . exact this
   . exact⟨Lo w,this⟩
 intro l hl;rw[Pl (b:=λw=>((c w:Int)==1))];have mL:∀v,v∈ws.filter (λw=>((c w:Int)==1))↔v∈ws/\c v=1:=λv=>by rw[A0];simp;lia
 have dL:=Qp (h:=h) (p:=l) (ws.filter (λw=>((c w:Int)==1)));generalize ws.filter (λw=>((c w:Int)==1))=L at mL dL;generalize eh1:put h l _=h1 at dL;have lt:tm≠l:=pl.dT.ne_none hl;have lp:tp≠l:=pl.dG.ne_none hl;have pl1:PlAt h1 p tm tp c G U:=by subst eh1;exact pl.cg (FR λz=>by have:=pl.self;rw[z,hl] at this;cases this) (FR lt) (FR lp)
 have le1:Le h h1:=by subst eh1;exact Le.put hl
 dsimp only[FM];refine KY (M8 rfl pl1.self rfl (KL key_wish (.refl _) pl1.dG λgl h2 C2 u2 ng mg hC2=>?_));refine HD wD (λw=>!decide (w∈L)) (λσ=>∃o,σ=[o,some (.ref l)]) (hC2 _ rfl) gl ⟨none,rfl⟩ (λw hw σ acc N ⟨o,es⟩ hN=>?_) ?_
 . subst es;refine L0 key_wish u2 dL w ?_;rw[Lb];exact IS (N:=λa=>N [some (wD w),some (.ref l)] a h2) (hN _ ⟨_,rfl⟩)
 rw[A5];have ms:∀x,x∈gl.filter (λw=>!decide (w∈L))↔x∈G/\x ∉ L:=λx=>by rw[A0,mg,gF_iff];simp
 have ns:(gl.filter (λw=>!decide (w∈L))).Nodup:=ng.filter _;generalize gl.filter (λw=>!decide (w∈L))=sl at ms ns;dsimp only[FM];refine Jq u2 ?_;dsimp only[FP,FV,FL,FJ];refine FI rfl (IE rfl pl1.self rfl (FI rfl ?_));refine⟨p,tm,tp,l,tF c,G,L,U,rfl,pl1.self,pl1.dT,pl1.dG,dL,uo.ok,λw z=>pl.sup w (tF_iff.mp z),pl.inU,λw z=>pl.sup w (by rw[((mL w).mp z).2];decide),λR qs hR tq=>?_⟩;have top:IsTop (HI U (Lp c ws)) (sl++qs):=QK uo pl.top pl.sup (λv=>?_) ms ns (λv=>by rw[hR,tF_iff]) tq
 . have l63:=MB uo top;rw[Ah] at l63;refine⟨by rw[Ac,Ac,sizeLine_eq];lia,?_⟩;exact⟨sl++qs,Nt (by simp[seqL]),λv hv=>uo.ok v (mem_onU.mp ((top.mem v).mp hv).1).1,by rw[Ah];exact l63,λrs pr s=>⟨h,le1,q rs (top.perm pr) s⟩⟩
 . unfold Lp;by_cases z:v∈ws/\c v=1
   . rw[if_pos z];simp[mL,z]
   . rw[if_neg z,mL];exact⟨λy=>⟨y,z⟩,λy=>y.1⟩)
theorem d56:Ge p Sl:=O5 Gi (by walk_at "x6") (by walk_at "b21") "@en!a1ufhJ0Z1?r1a0bkwccmeFgEba1cfhJ0Z1?r1a0bk8b2r1a0a1=cc" (by rintro ds h k e ⟨s,lab,hb,hs,U,G,rfl,sh,q⟩;refine Nz (λK z=>z) ?_;dsimp only[FP,FL];refine NZ rfl sh.b.self rfl sh.pl.self rfl ?_;exact⟨s.pa,s.tm,s.tp,Gs hs hb,G,U,[],rfl,sh.pl,sh.uo,(λw z=>by cases z),λqs t s=>Gb (q qs (by rw[Zg] at t;exact t) s)⟩)
theorem d57:Ge p Sk:=Gk Gi (by walk_at "x1") (by walk_at "b1") "@ei1g1ba0cei24g2ba1bdcdei3g4ba1bjkwbdbdca2cei4g6ba1ceC5g:ba1ba3ba4bojkwbdbdca2g2ba1bdcbodg2ba1bjkwbdbdca2cceC6g;ba1bdcenGa2dfC6oa6kxk;_;Zbg2ba1bdccq0Moo9sba0cL9sbKa0a0cmeC79k1=eC8_ei9oodvba6cvba5ceyZbod6bjkwbdbdca2bvba0cccp:ei;ja6g2ba1bvba6cceC<9Kg2ba1bdcdeC=2a8a;kwceC>g>ba1bkxone,putting,there;_<=;la5q0BO9qa0a2a1a0cei?k8ba>ceC@gCba8bLceiA&ta<J1Z15a7ba;ba?cJ1Z19a7ba;ba?ceP&ta<oa=a>kxone,some;_>;la=q0BRa0a1a0(a8a;eCBgCba8bLceiCDbkxone,top;_@;laBq0BRa0a1a0bkxone,behind;_B;la@q0BRa0a1a0cenEQAtgZ1:baAbaCcQOa?a>UAtgZ1:b9L1Z1@0a7baBcfhzmfnAtgZ1>ba7ba8ba6ba5bg2ba1ba9ccfhzmfh,bkxk,pool,holders_now,shelf,book;_5678;Zba9cq0MNZ1>ba3ba4ba2ba1ba0cc" (by
 rintro ds h k e ⟨ns,rfl,hl,q⟩;refine FX ?_;dsimp only[FV,FL,FK,FM];refine FI rfl ⟨ns,rfl,hl,λb g h1 hb hg o1 W1=>?_⟩;refine FX ?_;dsimp only[FJ,FV,FL,dC,FK];refine FI rfl (G5 W1 (by decide) (by decide) (by decide) λr h2 r0 r1 o2 W2=>?_);refine⟨⟨by decide,by decide⟩,?_⟩;obtain⟨L,hL,L1⟩:∃L:Nat,r / 7=(L:Int)/\L<=1:=⟨(r / 7).toNat,by lia,by lia⟩;dsimp only[FM];rw[hL];refine FX ?_;dsimp only[FV,FL,FJ,FY,FK,sz];obtain⟨v1,e1,c1⟩:=Mu 3 6 L1;refine FI rfl (FI rfl (Hj e1 ⟨b,g,_,v1,rfl,W2,by lia,by lia,by lia,?_⟩));rintro _ h3 ⟨fs,rfl,okf⟩ o3 W3;dsimp only[FM];refine FX ?_;dsimp only[FV,FL,FK];refine FI rfl ⟨b,g,_,rfl,W3,by lia,?_⟩;intro gr h4 okg o4 W4;dsimp only[FM];refine FX ?_;dsimp only[FV,FL,FJ,FY,FK,dC,sz];obtain⟨v2,e2,c2⟩:=Mu 1 20 L1;obtain⟨v3,e3,c3⟩:=Mu 10 58 L1;refine FI rfl (FI rfl (FI rfl (FI rfl (Hj e2 (FI rfl (G5 W4 (by lia) (by decide) (by decide) λa h5 a0 a1 o5 W5=>?_))))));dsimp only[Gu];refine FI rfl (FI rfl (Hj e3 (G5 W5 (by lia) (by lia) (by lia) λc h6 c0 c9 o6 W6=>?_)));dsimp only[Gu];obtain⟨M,hM⟩:∃M:Nat,3+c=(M:Int):=⟨(3+c).toNat,by lia⟩;rw[hM];refine⟨b,g,_,v2+a,gr,fs,M,rfl,W6,by lia,okf,okg,by lia,by lia,by lia,by lia,?_⟩;rintro _ h7 ⟨U,rfl,uo⟩ o7 W7;dsimp only[FM];refine FX ?_;dsimp only[FV,FL,FK,dC];refine FI rfl ⟨b,g,_,5,rfl,W7,by lia,by decide,by decide,?_⟩;rintro _ h8 ⟨hL0,rfl,okh0,lh1,lh7⟩ o8 W8;dsimp only[FM];refine Wz (λσ' h'=>∃(hL:List Str)(n:Int),σ'=[some (.lst (ns.map .int)),some (.ref b),some (.int L),some (.lst (fs.map .str)),some gr,some (.lst (U.map wD)),some (.lst (hL.map .str)),none,none,none,none,none,none,none,none,none,none,none,none,none]/\(∀x∈hL,HolderOk x)/\1<=hL.length/\hL.length<=63/\n<=20000/\Wl h' b g n) (λN hN=>?_) ?_
 . dsimp only[F_,FJ,dC];refine FI rfl (GZ ?_);rcases Az ((L:Int)==1) with hl1 | hl1
   . refine FZ (b:=((L:Int)==1)) hl1 ?_;dsimp only[Go,FJ,FY,Hq,IT,FV,FL,dC,FK];refine FI rfl (FI rfl (G5 W8 (by lia) (by decide) (by decide) λm h9 m0 m1 o9 W9=>⟨⟨by lia,by lia⟩,?_⟩));refine IY (λi:Nat=>D.int (0+(i:Nat))) (λi=> .str (Ka i)) (λσ=>∃o,σ=[o]) True.intro (A6 m.toNat) ⟨none,rfl⟩ (λi hi σ acc N2 ⟨o,es⟩ hN2=>?_) ?_
     . subst es;have hi:i<56:=by have:=BA.mp hi;lia
       have kl:=VP hi;unfold Ho;dsimp only[FM,HL,cond_true,FJ,Gh,FL,FK,dC];rw[EH];have sl:(15:Nat)+15+1<=An:=by rw[sizeLine_eq];lia
       have lw:("w":Str).length=1:=by decide+kernel
       have i2:(i:Int)*(i:Int)<=56*56:=CT (by lia) (by lia) (by lia) (by decide);have i20:0<=(i:Int)*(i:Int):=Ek (by lia) (by lia);refine FI rfl ⟨RG (by lia) (by lia),⟨?_,?_⟩⟩
       . show(Au (toString (i:Int))).length+("w":Str).length<=An;lia
       refine FI rfl (FI rfl ⟨⟨Ij (by lia) (by lia),Ij (by lia) (by lia)⟩,RG (by lia) (by lia),⟨?_,hN2 _ ⟨_,rfl⟩⟩⟩);show(Au (toString (i:Int))++"w").length+(Au (toString ((i:Int)*(i:Int)))).length<=An;lia
     . rw[A5];refine⟨by simp only[Ac,BD];rw[sizeLine_eq];lia,?_⟩;have em:(A6 m.toNat).map (λi=>D.str (Ka i))=((A6 m.toNat).map Ka).map D.str:=by rw[B8];rfl
       rw[em,<-AS];refine hN _ _ ⟨hL0++(A6 m.toNat).map Ka,_,rfl,λx hx=>?_,by rw[Ah];lia,by rw[Ah,Ac,BD];lia,by lia,W9⟩;rcases Aq.mp hx with z | z
       . exact okh0 x z
       . obtain⟨i,hi,rfl⟩:=AG.mp z;exact TS (by have:=BA.mp hi;lia)
   . exact Gy (b:=((L:Int)==1)) hl1 (hN _ _ ⟨hL0,_,rfl,okh0,lh1,by lia,by lia,W8⟩)
 rintro _ h9 ⟨hL,n9,rfl,okh,lh,lh63,n9l,W9⟩;obtain⟨hs,ndh,mh,lhs⟩:=QU hL;have hne:∀y∈hs,y≠"":=λy hy z=>by have:=(okh y ((mh y).mp hy)).lo;rw[z] at this;exact absurd this (by decide+kernel)
 refine FX ?_;dsimp only[OR,FK];intro sa hsa;refine⟨put_same,λs lab h10 es shf new10 off10=>⟨rfl,?_⟩⟩;subst es;dsimp only[FM];refine FX λd hd=>?_;dsimp only[FM];have W10:Wl h10 b g n9:=by
  have fb:=W9.free hsa;have nl:∀c o,h9 c=some o->lab c=none\/c=s.a:=λc o z=>AE λy=>by have y:=not_or.mp y;have:=new10 c y.1 y.2;rw[FR y.2] at this;rw[z] at this;cases this
  obtain⟨gs,ls,sd,cc,z1,z2,_⟩:=W9.ex;have lb:=(nl b _ z1).resolve_right fb.1;have lg:=(nl g _ z2).resolve_right fb.2;exact W9.cg ((off10 b lb).trans (FR fb.1)) ((off10 g lg).trans (FR fb.2))
 have sh10:=shf hs U ndh (by lia) uo;have ld:lab d=none:=sh10.b.free d hd;have hb0:HG []=λ_ _=>false:=by funext x v;rfl
 have S0:LS (put h10 d (.dct false [] [])) b g n9 lab s hs U [] d []:=⟨W10.put hd,by rw[hb0];exact sh10.keep λc hc=>FR λz=>hc (by rw[z];exact ld),⟨put_same,.nil⟩,BkOk.mk' .nil (λ_ z=>by cases z) (λ_ z=>by cases z) (λ_ z=>by cases z) (by lia) uo.len,ld⟩;generalize put h10 d (.dct false [] [])=h11 at S0;refine FX ?_;dsimp only[FJ,Gh,FL,FK,dC,FM];refine FI rfl (NO ?_);dsimp only[Gu];refine FI rfl (NO ?_);dsimp only[Gu];rw[Ac,Ac];refine KV ?_;dsimp only[IT,FJ,Gh,FL,FK,dC,FY,sz];obtain⟨v4,e4,c4⟩:=Mu 40 4 L1;refine FI rfl (Hj e4 (FI rfl ?_));have lns:((ns.map D.int).length:Int)<=63:=by rw[Ac];lia
 have mn:0<=(if((ns.map D.int).length:Int)<v4 then((ns.map D.int).length:Int) else v4)/\(if((ns.map D.int).length:Int)<v4 then((ns.map D.int).length:Int) else v4)<=40:=by split<;>lia
 generalize hmn:(if((ns.map D.int).length:Int)<v4 then((ns.map D.int).length:Int) else v4)=mv at mn
 show(-16777216<=4+(if((ns.map D.int).length:Int)<v4 then((ns.map D.int).length:Int) else v4)/\4+(if((ns.map D.int).length:Int)<v4 then((ns.map D.int).length:Int) else v4)<=16777216)/\_
 rw[hmn];refine⟨⟨by lia,by lia⟩,?_⟩;refine Hf (λds σ hh=>∃(lab:G_)(G:List (List WP))(bk:Bk)(n:Int)(y0 y1 y2 y3 y4 y5 y6 y7 y8 y9:Option D),σ=[some (.lst (ns.map .int)),some (.ref b),some (.int L),some (.lst (fs.map .str)),some gr,some (.lst (U.map wD)),some (.lst (hL.map .str)),some (.ref s.a),some (.ref d),some (.int (1+hL.length+U.length)),y0,y1,y2,y3,y4,y5,y6,y7,y8,y9]/\LS hh b g n lab s hs U G d bk/\n+110*ds.length<=30000) (λ_ _ _ _=>True.intro) ?_ ?_ _ ⟨lab,[],[],n9,none,none,none,none,none,none,none,none,none,none,rfl,S0,by simp only[Ac,BD];lia⟩
 . rintro d0 ds _ hh N ⟨lab,G,bk,n,y0,y1,y2,y3,y4,y5,y6,y7,y8,y9,rfl,S,hn⟩ hN;rw[Ao] at hn;dsimp only[FM];refine FX ?_;dsimp only[FJ,FV,FL,Gh,FK];refine FI rfl (FI rfl (FI rfl (NO (G5 S.W (by lia) (by rw[Ac];lia) (by rw[Ac];lia) λj h1 j0 j1 o1 W1=>?_))));have S1:=S.off o1 W1;rw[Ac] at j1;obtain⟨i,rfl⟩:∃i:Nat,j=(i:Int):=⟨j.toNat,by lia⟩;have hi:i<hL.length:=by lia
   refine Hj (d:= .str hL[i]) (by rw[AB,Ap hi];rfl) ?_;have okx:=okh _ (AI hi);have xs_:=(mh _).mpr (AI hi);generalize hL[i]=x at okx xs_;dsimp only[FM];refine FX ?_;dsimp only[FJ,FV,FL,FK,dC];refine FI rfl (G5 S1.W (by lia) (by decide) (by decide) λp5 h2 p0 p1 o2 W2=>?_);have S2:=S1.off o2 W2;dsimp only[FM,MR,HV];generalize decide ((1:Int)<p5)=pb;refine FX ?_;show Lr false (FN 8) (FN 11) (dC (.lst [])) _ _ _ _;refine On Iw S2.B.dic x (λk' z=>FI rfl z) (λk' z=>FI rfl z) ?_;have eg:((Gx bk x).map λws=>D.lst (ws.map wD)).getD (.lst [])= .lst (((Gx bk x).getD []).map wD):=by cases Gx bk x<;>rfl
   rw[eg];have mhd:∀v,HG bk x v=decide (v∈(Gx bk x).getD []):=RF S2.B.nd;have nw:((Gx bk x).getD []).Nodup:=by
    cases ew:Gx bk x with
    | none=>exact .nil
    | some ws=>exact S2.ok.nd _ (MM ew)
   generalize(Gx bk x).getD []=ths at mhd nw;have tU:∀w∈ths,w∈U:=λw hw=>(S2.sh.sup x w (by rw[mhd];simpa using hw)).2;have okt:∀w∈ths,WOk w:=λw hw=>uo.ok w (tU w hw);dsimp only[FM];refine FX ?_;dsimp only[FV,FL,FK,FY,Hq];refine FI rfl (IF (d:= .lst (U.map wD)) rfl (Hc ?_));refine HD wD (λw=>!(decide (w∈ths)==pb)) (λσ=>∃o,σ=[o,some (.bl pb),some (.lst (ths.map wD))]) True.intro U ⟨none,rfl⟩ (λw hw σ acc N ⟨o,es⟩ hN=>?_) ?_
   . subst es;unfold Ho;dsimp only[FM,F_,FJ];refine FI rfl (FI rfl (IJ okt (uo.ok w hw) (FI rfl (OC ?_))));exact IS (N:=λa=>N [some (wD w),some (.bl pb),some (.lst (ths.map wD))] a h2) (hN _ ⟨_,rfl⟩)
   rw[A5];have lc:(U.filter λw=>!(decide (w∈ths)==pb)).length<=63:=At (List.length_filter_le _ _) uo.len;refine⟨b,g,_,_,rfl,S2.W,by lia,uo.nd.filter _,lc,?_⟩;rintro _ h3 ⟨ps,rfl,ndp,mp⟩ o3 W3;have S3:=S2.off o3 W3;have pU:∀w∈ps,w∈U:=λw hw=>(A0.mp (mp w hw)).1;have okp:∀w∈ps,WOk w:=λw hw=>uo.ok w (pU w hw);have pt:∀w∈ps,HG bk x w=!pb:=λw hw=>by have:=(A0.mp (mp w hw)).2;rw[mhd];cases e1:decide (w∈ths)<;>cases e2:pb<;>rw[e1,e2] at this<;>first | rfl | cases this
   dsimp only[FM];refine FX ?_;dsimp only[FY,JM,FL,FK];refine FI rfl (Ye ?_);dsimp only[FM];refine FX ?_;dsimp only[FV,FL,FK,dC];refine FI rfl ⟨d,"",bk,U,rfl,S3.B,uo,S3.ok.inU,S3.ok.tot,λqs0 O0 hO0 t0 s0=>?_⟩;have T0:=S3.tops hne hO0 t0;dsimp only[FM];refine Ri (λσ' h'=>∃(cs gs G':List (List WP))(lab':G_),σ'=[some (.lst (ns.map .int)),some (.ref b),some (.int L),some (.lst (fs.map .str)),some gr,some (.lst (U.map wD)),some (.lst (hL.map .str)),some (.ref s.a),some (.ref d),some (.int (1+hL.length+U.length)),some d0,some (.str x),some (.bl pb),some (.lst (ths.map wD)),some (.lst (ps.map wD)),some (.lst (ps.map wD)),some (.lst (qs0.map wD)),some (.tup [.lst (cs.map wD),.lst (gs.map wD)]),y8,y9]/\ShAt h' lab' s (GX (HG bk) x ps pb) hs U G'/\Ext lab lab' h3/\(∀c,lab' c=none->h' c=h3 c)/\Told G G' cs gs) (λN hN=>?_) ?_
   . dsimp only[Hu,Gc,FL,FK];refine FI rfl ?_;cases pb with
     | true=> dsimp only[Hp,cond_true];refine IE rfl S3.sh.b.self rfl ?_;refine FI (i:=11) rfl (FI (i:=15) rfl ?_);exact⟨s,lab,_,hs,U,G,x,ps,rfl,S3.sh,okx,xs_,ndp,λw hw=>⟨pU w hw,pt w hw⟩,λcs gs G' lab' h' sh' ex' of' told=>hN _ _ ⟨cs,gs,G',lab',rfl,sh',ex',of',told⟩⟩
     | false=> dsimp only[Hp,cond_false];refine IE rfl S3.sh.b.self rfl ?_;refine FI (i:=11) rfl (FI (i:=15) rfl ?_);exact⟨s,lab,_,hs,U,G,x,ps,rfl,S3.sh,okx,xs_,ndp,λw hw=>⟨pU w hw,pt w hw⟩,λcs gs G' lab' h' sh' ex' of' told=>hN _ _ ⟨cs,gs,G',lab',rfl,sh',ex',of',told⟩⟩
   rintro _ h4 ⟨cs,gs,G',lab',rfl,sh4,ex4,of4,told⟩;obtain⟨ld',lb',lg'⟩:=S3.free ex4;have W4:Wl h4 b g _:=S3.W.cg (of4 b lb') (of4 g lg');have B4:BkAt h4 d bk:=⟨(of4 d ld').trans S3.B.at',S3.B.nd⟩;have lbk:bk.length<=63:=by
    have:=He _ _ S3.B.nd λy hy=>by obtain⟨r,hr,z⟩:=AG.mp hy;rw[<-z];exact S3.ok.inH r hr
    rw[Ac] at this;lia
   refine Ri (λσ' h'=>∃ws:List (List WP),σ'=[some (.lst (ns.map .int)),some (.ref b),some (.int L),some (.lst (fs.map .str)),some gr,some (.lst (U.map wD)),some (.lst (hL.map .str)),some (.ref s.a),some (.ref d),some (.int (1+hL.length+U.length)),some d0,some (.str x),some (.bl pb),some (.lst (ths.map wD)),some (.lst (ps.map wD)),some (.lst (ps.map wD)),some (.lst (qs0.map wD)),some (.tup [.lst (cs.map wD),.lst (gs.map wD)]),y8,y9]/\Off [d] h4 h'/\BkAt h' d (Hv bk x ws)/\ws.Nodup/\(∀w∈ws,w∈U)/\∀v,v∈ws↔(if v∈ps then pb=true else HG bk x v=true)) (λN hN=>?_) ?_
   . dsimp only[Hu,Gc];refine FI rfl ?_;have lt63:=At (He _ _ nw tU) uo.len;have lp63:=At (He _ _ ndp pU) uo.len;cases pb with
     | true=>
      dsimp only[Hp,cond_true,FJ];refine FI rfl (FI rfl ?_);refine⟨by rw[Ac,Ac,sizeLine_eq];lia,?_⟩;rw[<-AS];dsimp only[IU];refine FI rfl (FI rfl (PX B4 (by lia) λh' o B=>hN _ _ ⟨ths++ps,rfl,o,B,?_,?_,λv=>?_⟩))
      . refine AZ.mpr ⟨nw,ndp,λa ha c hc z=>?_⟩;subst z;have:=pt a hc;rw[mhd,decide_eq_true ha] at this;cases this
      . intro w hw;exact(Aq.mp hw).elim (tU w) (pU w)
      . rw[Aq,mhd];by_cases m:v∈ps<;>simp[m]
     | false=>
      dsimp only[Hp,cond_false,FY,Hq];refine IF (d:= .lst (ths.map wD)) rfl (Hc ?_);refine HD wD (λw=>!decide (w∈ps)) (λσ=>∃o,σ=[o,some (.lst (ps.map wD))]) True.intro ths ⟨none,rfl⟩ (λw hw σ acc N ⟨o,es⟩ hN=>?_) ?_
      . subst es;unfold Ho;dsimp only[FM,F_,FJ];refine FI rfl (FI rfl (IJ okp (okt w hw) ?_));exact IS (N:=λa=>N [some (wD w),some (.lst (ps.map wD))] a h4) (hN _ ⟨_,rfl⟩)
      rw[A5];dsimp only[IU];refine FI rfl (FI rfl (PX B4 (by lia) λh' o B=>hN _ _ ⟨ths.filter λw=>!decide (w∈ps),rfl,o,B,nw.filter _,λw hw=>tU w (A0.mp hw).1,λv=>?_⟩));rw[A0,mhd];by_cases m:v∈ps<;>simp[m]
   rintro _ h5 ⟨ws,rfl,o5,B5,ndw,wU,mw⟩;have eH:HG (Hv bk x ws)=GX (HG bk) x ps pb:=Zr S3.B.nd mw;have dn:=S3.dne;have S5:LS h5 b g _ lab' s hs U G' d (Hv bk x ws):=⟨W4.cg (o5.at1 dn.1.symm) (o5.at1 dn.2.symm),by rw[eH];exact sh4.keep λc hc=>o5.at1 λz=>hc (by rw[z];exact ld'),B5,?_,ld'⟩
   rotate_left
   . refine BkOk.mk' (Ob S3.B.nd) (λr hr=>?_) (λr hr=>?_) (λr hr=>?_) (by lia) uo.len
     . rcases(JC S3.B.nd).mp hr with z | ⟨z,_⟩
       . rw[z];exact ndw
       . exact S3.ok.nd r z
     . rcases(JC S3.B.nd).mp hr with z | ⟨z,_⟩
       . rw[z];exact wU
       . exact S3.ok.inU r z
     . rcases(JC S3.B.nd).mp hr with z | ⟨z,_⟩
       . rw[z];exact xs_
       . exact S3.ok.inH r z
   refine FX ?_;dsimp only[FV,FL,FK,dC];refine FI rfl ⟨d,"",Hv bk x ws,U,rfl,S5.B,uo,S5.ok.inU,S5.ok.tot,λqs1 O1 hO1 t1 s1=>?_⟩;have T1:=S5.tops hne hO1 t1;have ok0:∀w∈qs0,WOk w:=λw hw=>uo.ok w (mem_onU.mp ((T0.mem w).mp hw).1).1;have ok1:∀w∈qs1,WOk w:=λw hw=>uo.ok w (mem_onU.mp ((T1.mem w).mp hw).1).1;dsimp only[FM];refine FX ?_;dsimp only[Gw,FL,FK,FY,Hq];refine IF (d:= .lst (qs1.map wD)) rfl (Hc ?_);refine HD wD (λw=>!decide (w∈qs0)) (λσ=>∃o,σ=[o,some (.lst (qs0.map wD))]) True.intro qs1 ⟨none,rfl⟩ (λw hw σ acc N ⟨o,es⟩ hN=>?_) ?_
   . subst es;unfold Ho;dsimp only[FM,F_,FJ];refine FI rfl (FI rfl (IJ ok0 (ok1 w hw) ?_));exact IS (N:=λa=>N [some (wD w),some (.lst (qs0.map wD))] a h5) (hN _ ⟨_,rfl⟩)
   rw[A5];refine IF (d:= .lst (qs0.map wD)) rfl (Hc ?_);refine HD wD (λw=>!decide (w∈qs1)) (λσ=>∃o,σ=[o,some (.lst (qs1.map wD))]) True.intro qs0 ⟨none,rfl⟩ (λw hw σ acc N ⟨o,es⟩ hN=>?_) ?_
   . subst es;unfold Ho;dsimp only[FM,F_,FJ];refine FI rfl (FI rfl (IJ ok1 (ok0 w hw) ?_));exact IS (N:=λa=>N [some (wD w),some (.lst (qs1.map wD))] a h5) (hN _ ⟨_,rfl⟩)
   rw[A5];have mG:∀v,v∈G↔v∈qs0:=QC S3.sh.pl.top T0;have mG':∀v,v∈G'↔v∈qs1:=QC S5.sh.pl.top T1;have ec:cs=qs1.filter λw=>!decide (w∈qs0):=Oc told.s1 (s1.sublist (Ef ..)) told.n1 (T1.nd.filter _) λv=>by rw[told.m1,mG,mG',A0];simp
   have eg2:gs=qs0.filter λw=>!decide (w∈qs1):=Oc told.s2 (s0.sublist (Ef ..)) told.n2 (T0.nd.filter _) λv=>by rw[told.m2,mG,mG',A0];simp
   rw[<-ec,<-eg2];have okcs:∀w∈cs,WOk w:=λw hw=>ok1 w ((mG' w).mp ((told.m1 w).mp hw).1);have okgs:∀w∈gs,WOk w:=λw hw=>ok0 w ((mG w).mp ((told.m2 w).mp hw).1);have lcs:cs.length<=63:=At (He _ _ told.n1 λw hw=>S5.sh.pl.inU w ((told.m1 w).mp hw).1) uo.len;have lgs:gs.length<=63:=At (He _ _ told.n2 λw hw=>S3.sh.pl.inU w ((told.m2 w).mp hw).1) uo.len;dsimp only[sz,FM];refine MZ (λK z=>?_) ?_
   . dsimp only[OH,Gj,Gc,FV,FL,FK,F_,FJ];refine FI rfl (FI rfl ⟨4,by decide,rfl,N7 (by simp) ?_,?_⟩)
     . intro y hy;simp only[Ag,AC,or_false] at hy;rcases hy with rfl | rfl
       . exact Lx okcs (by lia)
       . exact Lx okgs (by lia)
     dsimp only[Hp,Cr,cond_false,OH,F_,FJ,Gj,Gc,FV,FL,FK];refine Gy (b:=!true) rfl ?_;refine FI rfl (FI rfl ?_);have lp63:=At (He _ _ ndp pU) uo.len;refine XF (Lx okp (by lia)) (by decide) ?_;dsimp only[cond_false];refine IE rfl S5.sh.b.self rfl ?_;refine⟨s,lab',_,hs,U,G',rfl,S5.sh,λqs t s=>?_⟩;have e:qs=qs1:=YS t T1 s s1;subst e;refine FI rfl ⟨3,by decide,rfl,Lx ok1 ?_,z⟩;have:=MB uo T1;lia
   dsimp only[G4,Gj,Gc,FV,FL,FK,GY];refine FI rfl (FI rfl (FI rfl (FI rfl (FI rfl (FI rfl (G5 S5.W (by lia) (by lia) (by have:=uo.len;lia) λkk h6 k0 k1 o6 W6=>?_))))));have S6:=S5.off o6 W6;exact⟨s,lab',hs,hL,U,G',d,Hv bk x ws,kk,rfl,S6.sh,S6.B,S6.ok,okh,by lia,k0,k1,hN _ _ ⟨lab',G',Hv bk x ws,_,_,_,_,_,_,_,_,_,_,_,rfl,S6,by lia⟩⟩
 . rintro _ hh ⟨lab,G,bk,n,y0,y1,y2,y3,y4,y5,y6,y7,y8,y9,rfl,S,hn⟩;dsimp only[FP,Gh,FL,FK,FY,Hq,IT];refine FI rfl ⟨⟨by lia,by have:=uo.len;lia⟩,?_⟩;refine IY (λi:Nat=>D.int (0+(i:Nat))) (λ_=> .bl true) (λσ=>∃o,σ=[o,some (.lst (U.map wD)),some (.lst (hL.map .str)),some (.ref s.a),some (.ref d)]) True.intro (A6 ((1:Int)+hL.length+U.length).toNat) ⟨none,rfl⟩ (λi hi σ acc N ⟨o,es⟩ hN=>?_) (JZ (Gb (q hh)));subst es;have hi:=BA.mp hi;unfold Ho;dsimp only[FM,HL,cond_true,FV,FL,FK];rw[EH];refine FI rfl (FI rfl (FI rfl (FI rfl (FI rfl ?_))));exact⟨s,lab,hs,hL,U,G,d,bk,i,rfl,S.sh,S.B,S.ok,okh,by lia,by lia,by lia,hN _ ⟨_,rfl⟩⟩)
end
theorem all:AllL (Ge p) p.tb:= .cons d0<| .cons d1<| .cons d2<| .cons d3<| .cons d4<| .cons d5<| .cons d6<| .cons d7<| .cons d8<| .cons d9<| .cons d10<| .cons d11<| .cons d12<| .cons d13<| .cons d14<| .cons d15<| .cons d16<| .cons d17<| .cons d18<| .cons d19<| .cons d20<| .cons d21<| .cons d22<| .cons d23<| .cons d24<| .cons d25<| .cons d26<| .cons d27<| .cons d28<| .cons d29<| .cons d30<| .cons d31<| .cons d32<| .cons d33<| .cons d34<| .cons d35<| .cons d36<| .cons d37<| .cons d38<| .cons d39<| .cons d40<| .cons d41<| .cons d42<| .cons d43<| .cons d44<| .cons d45<| .cons d46<| .cons d47<| .cons d48<| .cons d49<| .cons d50<| .cons d51<| .cons d52<| .cons d53<| .cons d54<| .cons d55<| .cons d56<| .cons d57<| .nil
end Lake.M18
namespace PySem.W.Fast
theorem tw5638823943942575809:0=0:=rfl
theorem tw12713380636974737378:0=0:=rfl
theorem tw14251687198697094180:0=0:=rfl
theorem tw5841348072793071973:0=0:=rfl
theorem tw6515048976869197642:0=0:=rfl
theorem tw11369862168566849164:0=0:=rfl
theorem tw13789063501433293998:0=0:=rfl
theorem tw9450257133780324975:0=0:=rfl
theorem tw15182533754423032527:0=0:=rfl
theorem tw1723868008629283542:0=0:=rfl
theorem tw18200602768642799707:0=0:=rfl
theorem tw11098040832811849563:0=0:=rfl
theorem tw14379320064064908477:0=0:=rfl
theorem tw18257223210993976894:0=0:=rfl
theorem tw16485557241042395414:0=0:=rfl
theorem tw7815207022183492608:0=0:=rfl
theorem tw15246247655649490944:0=0:=rfl
theorem tw3008195550766493792:0=0:=rfl
theorem tw17013775189051517088:0=0:=rfl
theorem tw17639775982133455104:0=0:=rfl
theorem tw1977498778195488032:0=0:=rfl
theorem tw4377045572630796736:0=0:=rfl
theorem tw1204118252078268032:0=0:=rfl
theorem tw3756103593937532544:0=0:=rfl
theorem tw6498524803076992672:0=0:=rfl
theorem tw608526141791493824:0=0:=rfl
theorem tw10926995255644935936:0=0:=rfl
theorem tw7093114940301478720:0=0:=rfl
theorem tw7164101281285830528:0=0:=rfl
theorem tw14902402128841528288:0=0:=rfl
theorem tw10937944068381945889:0=0:=rfl
theorem tw15889239056165696673:0=0:=rfl
theorem tw15324306896395026625:0=0:=rfl
theorem tw833720804802044129:0=0:=rfl
theorem tw10883770020103078145:0=0:=rfl
theorem tw4834928911780367617:0=0:=rfl
theorem tw7005241164112934209:0=0:=rfl
theorem tw14167434139293869441:0=0:=rfl
theorem tw13144228273006690753:0=0:=rfl
theorem tw5393991995943940609:0=0:=rfl
theorem tw16264914060194045601:0=0:=rfl
theorem tw4255996826960274241:0=0:=rfl
theorem tw10729970230046488385:0=0:=rfl
theorem tw9083664696238265185:0=0:=rfl
theorem tw15005685824217800641:0=0:=rfl
theorem tw7145379281661967329:0=0:=rfl
theorem tw8974462333784409057:0=0:=rfl
theorem tw9294597224497185794:0=0:=rfl
theorem tw11066566116268738722:0=0:=rfl
theorem tw6999411406199510242:0=0:=rfl
theorem tw10241169488775546114:0=0:=rfl
theorem tw8909064451133451682:0=0:=rfl
theorem tw11241289874979132866:0=0:=rfl
theorem tw13486320004635607490:0=0:=rfl
theorem tw14683282927727121186:0=0:=rfl
theorem tw16192707131242134338:0=0:=rfl
theorem tw8563333271036631906:0=0:=rfl
theorem tw6713336350672804834:0=0:=rfl
theorem tw14665311220660634627:0=0:=rfl
theorem tw14387304807729288387:0=0:=rfl
theorem tw14784701136833139939:0=0:=rfl
theorem tw16594622960581599619:0=0:=rfl
theorem tw2555127330376149379:0=0:=rfl
theorem tw13888477703898858915:0=0:=rfl
theorem tw15356463321237251555:0=0:=rfl
theorem tw9157269162280384035:0=0:=rfl
theorem tw15104146727056989827:0=0:=rfl
theorem tw11685673516299664131:0=0:=rfl
theorem tw11845369858718515139:0=0:=rfl
theorem tw2356651689482649604:0=0:=rfl
theorem tw7518879145007965188:0=0:=rfl
theorem tw15932547900558473220:0=0:=rfl
theorem tw14964513660174110756:0=0:=rfl
theorem tw13829968698050048036:0=0:=rfl
theorem tw13201693934367518788:0=0:=rfl
theorem tw1876054329763352644:0=0:=rfl
theorem tw7954651485329855620:0=0:=rfl
theorem tw7675757572710621348:0=0:=rfl
theorem tw8635533387308937604:0=0:=rfl
theorem tw11706783350784167332:0=0:=rfl
theorem tw16533191628023050660:0=0:=rfl
theorem tw8964803203621062084:0=0:=rfl
theorem tw17893906976388459012:0=0:=rfl
theorem tw15847175335384840708:0=0:=rfl
theorem tw10779698818613791268:0=0:=rfl
theorem tw18026109401043648132:0=0:=rfl
theorem tw7666323815269988004:0=0:=rfl
theorem tw7752967498241703620:0=0:=rfl
theorem tw12244179702353734372:0=0:=rfl
theorem tw6166794799196773220:0=0:=rfl
theorem tw5579449282165599140:0=0:=rfl
theorem tw9571158131778976740:0=0:=rfl
theorem tw6073584356232356901:0=0:=rfl
theorem tw5132751977614027877:0=0:=rfl
theorem tw13536039057666028645:0=0:=rfl
theorem tw13666733950959786149:0=0:=rfl
theorem tw12343998251630534885:0=0:=rfl
theorem tw4407866206202791141:0=0:=rfl
theorem tw5336367005787332869:0=0:=rfl
theorem tw1254131662959854853:0=0:=rfl
theorem tw17773203691178006821:0=0:=rfl
theorem tw18223341559041760549:0=0:=rfl
theorem tw14792634584206297381:0=0:=rfl
theorem tw10622633244609170757:0=0:=rfl
theorem tw15068105848747806053:0=0:=rfl
theorem tw9287970796973833637:0=0:=rfl
theorem tw13731083932124863909:0=0:=rfl
theorem tw6317465527016701381:0=0:=rfl
theorem tw924260025742709445:0=0:=rfl
theorem tw13816591296009193189:0=0:=rfl
theorem tw6073947455956389637:0=0:=rfl
theorem tw11375989956817651621:0=0:=rfl
theorem tw2793757871347998629:0=0:=rfl
theorem tw15491163254590946213:0=0:=rfl
theorem tw6425148311107505158:0=0:=rfl
theorem tw18273021770966013958:0=0:=rfl
theorem tw17557293578142358598:0=0:=rfl
theorem tw18049191350032146502:0=0:=rfl
theorem tw6321671562163536966:0=0:=rfl
theorem tw2237839854029593830:0=0:=rfl
theorem tw15350424790819037446:0=0:=rfl
theorem tw6756275256334447046:0=0:=rfl
theorem tw12780446957333200358:0=0:=rfl
theorem tw7435116531207687686:0=0:=rfl
theorem tw526960547058299398:0=0:=rfl
theorem tw3178501282311603782:0=0:=rfl
theorem tw17075174352816304710:0=0:=rfl
theorem tw8523952160611427942:0=0:=rfl
theorem tw13062354828113510086:0=0:=rfl
theorem tw8732705503582310182:0=0:=rfl
theorem tw15277110059767366470:0=0:=rfl
theorem tw8172103861482632006:0=0:=rfl
theorem tw9416449573180383078:0=0:=rfl
theorem tw17946158355807393734:0=0:=rfl
theorem tw699101369078791175:0=0:=rfl
theorem tw7181717458407351591:0=0:=rfl
theorem tw8083638291162890567:0=0:=rfl
theorem tw8186093408325317991:0=0:=rfl
theorem tw1454373748391370087:0=0:=rfl
theorem tw17130693291474035079:0=0:=rfl
theorem tw17914005552218604999:0=0:=rfl
theorem tw7042805244191268327:0=0:=rfl
theorem tw12815146800559601415:0=0:=rfl
theorem tw4224027431112050471:0=0:=rfl
theorem tw17530388566284593959:0=0:=rfl
theorem tw8784425313976270695:0=0:=rfl
theorem tw17975829011891767143:0=0:=rfl
theorem tw2135080892141635495:0=0:=rfl
theorem tw18352537810704440263:0=0:=rfl
theorem tw17769156865236352999:0=0:=rfl
theorem tw8245701775074985032:0=0:=rfl
theorem tw9156419824706917544:0=0:=rfl
theorem tw11538500104782009672:0=0:=rfl
theorem tw4934392219252611400:0=0:=rfl
theorem tw7608269168849160552:0=0:=rfl
theorem tw1367353447988647272:0=0:=rfl
theorem tw17361071298773884296:0=0:=rfl
theorem tw4446810563832356296:0=0:=rfl
theorem tw3041787434164402664:0=0:=rfl
theorem tw5912441646556817096:0=0:=rfl
theorem tw12095202646973226696:0=0:=rfl
theorem tw2421643206263509800:0=0:=rfl
theorem tw17748082715573185352:0=0:=rfl
theorem tw3902278004354376520:0=0:=rfl
theorem tw1998933720015275944:0=0:=rfl
theorem tw4401653821142808488:0=0:=rfl
theorem tw3888039978480986153:0=0:=rfl
theorem tw6285631061570545769:0=0:=rfl
theorem tw17877833637795491081:0=0:=rfl
theorem tw4148009985268687145:0=0:=rfl
theorem tw17980575615926973897:0=0:=rfl
theorem tw15260906630848580105:0=0:=rfl
theorem tw6612645735979134473:0=0:=rfl
theorem tw3103493442918297097:0=0:=rfl
theorem tw13416708838482527785:0=0:=rfl
theorem tw6528329192737601225:0=0:=rfl
theorem tw11995758960619673385:0=0:=rfl
theorem tw14541396247804282729:0=0:=rfl
theorem tw9380016428864954378:0=0:=rfl
theorem tw4795394754468441098:0=0:=rfl
theorem tw17572975680808123402:0=0:=rfl
theorem tw3166027733044462634:0=0:=rfl
theorem tw9698126211118714954:0=0:=rfl
theorem tw11512800331015402666:0=0:=rfl
theorem tw7361214674544082122:0=0:=rfl
theorem tw669427004055199978:0=0:=rfl
theorem tw18255089181400367466:0=0:=rfl
theorem tw11797208389236520426:0=0:=rfl
theorem tw7829143100767588874:0=0:=rfl
theorem tw8647633595440339658:0=0:=rfl
theorem tw7401704240106812138:0=0:=rfl
theorem tw16956899565118035722:0=0:=rfl
theorem tw14817920647331022634:0=0:=rfl
theorem tw11374646760380025834:0=0:=rfl
theorem tw9986834092929047530:0=0:=rfl
theorem tw12422807476717667339:0=0:=rfl
theorem tw10446186980610843755:0=0:=rfl
theorem tw7948053625263070379:0=0:=rfl
theorem tw8693103805684452555:0=0:=rfl
theorem tw16912434388692965611:0=0:=rfl
theorem tw10841368825013650667:0=0:=rfl
theorem tw3905241853108363531:0=0:=rfl
theorem tw4468861748875911563:0=0:=rfl
theorem tw4889736899180704363:0=0:=rfl
theorem tw6386160585389098635:0=0:=rfl
theorem tw11403582597591454347:0=0:=rfl
theorem tw13554033151825863307:0=0:=rfl
theorem tw15258886909880231691:0=0:=rfl
theorem tw9606564624369224491:0=0:=rfl
theorem tw1490887173753573355:0=0:=rfl
theorem tw2772832594056184972:0=0:=rfl
theorem tw14357293578745600140:0=0:=rfl
theorem tw3403438184652630252:0=0:=rfl
theorem tw15794274363791072524:0=0:=rfl
theorem tw6580418182602896748:0=0:=rfl
theorem tw4708585210871895404:0=0:=rfl
theorem tw3387173683320485292:0=0:=rfl
theorem tw7377358102329662956:0=0:=rfl
theorem tw7287426835084119820:0=0:=rfl
theorem tw9755880545550849836:0=0:=rfl
theorem tw13198100860287765356:0=0:=rfl
theorem tw11230446478224819116:0=0:=rfl
theorem tw5679627473451370444:0=0:=rfl
theorem tw557352342804976620:0=0:=rfl
theorem tw12447277503173711917:0=0:=rfl
theorem tw3088728397286699085:0=0:=rfl
theorem tw2639296530815168621:0=0:=rfl
theorem tw17195981790359831725:0=0:=rfl
theorem tw13461256928908145869:0=0:=rfl
theorem tw14333589420109569293:0=0:=rfl
theorem tw11561488063183354253:0=0:=rfl
theorem tw8644243385327959565:0=0:=rfl
theorem tw15933780568210963981:0=0:=rfl
theorem tw9221015634482396717:0=0:=rfl
theorem tw18321885345058047565:0=0:=rfl
theorem tw16678029730426011277:0=0:=rfl
theorem tw1060056667694437133:0=0:=rfl
theorem tw6560361619299014670:0=0:=rfl
theorem tw15650945187548018798:0=0:=rfl
theorem tw16642048939885010094:0=0:=rfl
theorem tw1032505300293312878:0=0:=rfl
theorem tw16655542362499306862:0=0:=rfl
theorem tw7924886692274267534:0=0:=rfl
theorem tw9841251091432182414:0=0:=rfl
theorem tw10615067903414278926:0=0:=rfl
theorem tw7575972826884853614:0=0:=rfl
theorem tw17107274074119839759:0=0:=rfl
theorem tw6167879508594728975:0=0:=rfl
theorem tw12005091186191993903:0=0:=rfl
theorem tw3736174759067830319:0=0:=rfl
theorem tw16410060606480814191:0=0:=rfl
theorem tw2856561745156248783:0=0:=rfl
theorem tw572034055688751375:0=0:=rfl
theorem tw9339648902292634991:0=0:=rfl
theorem tw15356736101077486063:0=0:=rfl
theorem tw12350098290586819183:0=0:=rfl
theorem tw8069985138231124623:0=0:=rfl
theorem tw7992819655751565999:0=0:=rfl
theorem tw12046785644065825487:0=0:=rfl
theorem tw9576513064650194703:0=0:=rfl
theorem tw10166118949115116303:0=0:=rfl
theorem tw13932081010073150255:0=0:=rfl
theorem tw17116545937243260751:0=0:=rfl
theorem tw9348880785867432847:0=0:=rfl
theorem tw7128800496572797871:0=0:=rfl
theorem tw1748253325484850159:0=0:=rfl
theorem tw12550308803244768304:0=0:=rfl
theorem tw6281849187578470480:0=0:=rfl
theorem tw11424240738728998032:0=0:=rfl
theorem tw51147001391950000:0=0:=rfl
theorem tw13779546054110759152:0=0:=rfl
theorem tw5208748966584317232:0=0:=rfl
theorem tw3725754881709231408:0=0:=rfl
theorem tw9217273876974511568:0=0:=rfl
theorem tw16808568612013083120:0=0:=rfl
theorem tw12533743369280787952:0=0:=rfl
theorem tw17588220603110230544:0=0:=rfl
theorem tw16601194065925209680:0=0:=rfl
theorem tw15471129497958916688:0=0:=rfl
theorem tw4105604142234902160:0=0:=rfl
theorem tw6770109625171212080:0=0:=rfl
theorem tw14627046943037298480:0=0:=rfl
theorem tw6220602619823552304:0=0:=rfl
theorem tw14371827166405540688:0=0:=rfl
theorem tw8659975658061033392:0=0:=rfl
theorem tw850635348593853392:0=0:=rfl
theorem tw10759781770931920880:0=0:=rfl
theorem tw232355053096301585:0=0:=rfl
theorem tw213841148011870257:0=0:=rfl
theorem tw4620177781521176657:0=0:=rfl
theorem tw17549904648555573329:0=0:=rfl
theorem tw4468922260620094609:0=0:=rfl
theorem tw13986080715924373777:0=0:=rfl
theorem tw3127514197965519217:0=0:=rfl
theorem tw16528916646781678993:0=0:=rfl
theorem tw4174632763670557105:0=0:=rfl
theorem tw12796531368106168817:0=0:=rfl
theorem tw919340148804817553:0=0:=rfl
theorem tw7322702297331847825:0=0:=rfl
theorem tw12343000079178922769:0=0:=rfl
theorem tw1117469244428208977:0=0:=rfl
theorem tw354773796573119345:0=0:=rfl
theorem tw8018890408145240945:0=0:=rfl
theorem tw16468413101358869361:0=0:=rfl
theorem tw13196625600616781745:0=0:=rfl
theorem tw10511078583227756497:0=0:=rfl
theorem tw6092784089934409713:0=0:=rfl
theorem tw6085605255487813714:0=0:=rfl
theorem tw8627001485069130834:0=0:=rfl
theorem tw3554968737375047826:0=0:=rfl
theorem tw6474829319400117426:0=0:=rfl
theorem tw6520505490859736274:0=0:=rfl
theorem tw16790936837363260658:0=0:=rfl
theorem tw10958734195734624498:0=0:=rfl
theorem tw4555204243404573970:0=0:=rfl
theorem tw5708707823373519218:0=0:=rfl
theorem tw5892664798390955538:0=0:=rfl
theorem tw3525936382247756402:0=0:=rfl
theorem tw5733307101839666834:0=0:=rfl
theorem tw8773433158551979666:0=0:=rfl
theorem tw2601563501936112338:0=0:=rfl
theorem tw11578352852058581938:0=0:=rfl
theorem tw16013822878523701202:0=0:=rfl
theorem tw5549735658783633394:0=0:=rfl
theorem tw10869801722573844499:0=0:=rfl
theorem tw6729083395474441267:0=0:=rfl
theorem tw7637601478064672947:0=0:=rfl
theorem tw11744529964185532659:0=0:=rfl
theorem tw2382754126593261907:0=0:=rfl
theorem tw5879512586409431603:0=0:=rfl
theorem tw12896165032799656595:0=0:=rfl
theorem tw11680305053560091347:0=0:=rfl
theorem tw7610876128917813075:0=0:=rfl
theorem tw8288930714370928499:0=0:=rfl
theorem tw13197517189058597811:0=0:=rfl
theorem tw5874454461269530579:0=0:=rfl
theorem tw13436661417460829171:0=0:=rfl
theorem tw15569322292847229012:0=0:=rfl
theorem tw18218671924785712372:0=0:=rfl
theorem tw3789904630241202452:0=0:=rfl
theorem tw17808429438182888756:0=0:=rfl
theorem tw12195813797225435476:0=0:=rfl
theorem tw8911400618053672276:0=0:=rfl
theorem tw11145571747388738900:0=0:=rfl
theorem tw12847251344256096596:0=0:=rfl
theorem tw4897182216979810772:0=0:=rfl
theorem tw11670814384896008756:0=0:=rfl
theorem tw6407953435746004596:0=0:=rfl
theorem tw9825339695121800948:0=0:=rfl
theorem tw11109366093259941620:0=0:=rfl
theorem tw18325994043916352244:0=0:=rfl
theorem tw16733115132107401076:0=0:=rfl
theorem tw13258947010751896500:0=0:=rfl
theorem tw775837899385248692:0=0:=rfl
theorem tw10991262208490515444:0=0:=rfl
theorem tw5744764336856137716:0=0:=rfl
theorem tw9335801063587769365:0=0:=rfl
theorem tw14928929495296666837:0=0:=rfl
theorem tw17245909544632811797:0=0:=rfl
theorem tw11970069118779256245:0=0:=rfl
theorem tw3602125225627781653:0=0:=rfl
theorem tw4998247095352507925:0=0:=rfl
theorem tw1680867532748882517:0=0:=rfl
theorem tw11333891618330994357:0=0:=rfl
theorem tw2924884458640262005:0=0:=rfl
theorem tw16801249144123810709:0=0:=rfl
theorem tw2898833021384334390:0=0:=rfl
theorem tw6273410129727418454:0=0:=rfl
theorem tw7041094742216497238:0=0:=rfl
theorem tw10846612002494818518:0=0:=rfl
theorem tw16224249188347202774:0=0:=rfl
theorem tw13164773717830196630:0=0:=rfl
theorem tw2447017628628961814:0=0:=rfl
theorem tw5066102301178995254:0=0:=rfl
theorem tw15165548291205064246:0=0:=rfl
theorem tw1477520885387128406:0=0:=rfl
theorem tw2372259075288015446:0=0:=rfl
theorem tw12309520474769541718:0=0:=rfl
theorem tw1378797262144949046:0=0:=rfl
theorem tw10499950786886877110:0=0:=rfl
theorem tw5453076005425978326:0=0:=rfl
theorem tw12258674658106712054:0=0:=rfl
theorem tw5039292596699694103:0=0:=rfl
theorem tw4478464194454102103:0=0:=rfl
theorem tw2661765524321372311:0=0:=rfl
theorem tw10810702870776590583:0=0:=rfl
theorem tw5415481365298620759:0=0:=rfl
theorem tw4955431298633882967:0=0:=rfl
theorem tw11353122370794904055:0=0:=rfl
theorem tw13746611747108681303:0=0:=rfl
theorem tw5269864929727396471:0=0:=rfl
theorem tw3921241014999633527:0=0:=rfl
theorem tw6752197773658296983:0=0:=rfl
theorem tw10080648711898370871:0=0:=rfl
theorem tw12401126218584288151:0=0:=rfl
theorem tw17193333700239325208:0=0:=rfl
theorem tw9140511152855415864:0=0:=rfl
theorem tw13688516589785575544:0=0:=rfl
theorem tw13298171377390085304:0=0:=rfl
theorem tw8120815294377127128:0=0:=rfl
theorem tw2062609230279564600:0=0:=rfl
theorem tw10177957046396600696:0=0:=rfl
theorem tw13709859863485624728:0=0:=rfl
theorem tw14028699371651747320:0=0:=rfl
theorem tw1958023211596581432:0=0:=rfl
theorem tw17966616022813269656:0=0:=rfl
theorem tw4117194085695357688:0=0:=rfl
theorem tw6283232068053426968:0=0:=rfl
theorem tw15938924714148134712:0=0:=rfl
theorem tw18019726217106962264:0=0:=rfl
theorem tw5035589102399553432:0=0:=rfl
theorem tw14126279597049635768:0=0:=rfl
theorem tw6527224940820177880:0=0:=rfl
theorem tw14572514398317716633:0=0:=rfl
theorem tw16758422971556352185:0=0:=rfl
theorem tw11363920150006969593:0=0:=rfl
theorem tw5411522120628055353:0=0:=rfl
theorem tw8480817366273541497:0=0:=rfl
theorem tw2252915665047943545:0=0:=rfl
theorem tw2106348307279108505:0=0:=rfl
theorem tw18093508390855367129:0=0:=rfl
theorem tw8230470597046983161:0=0:=rfl
theorem tw10034021244366668377:0=0:=rfl
theorem tw17436541737966261913:0=0:=rfl
theorem tw8264605790866864825:0=0:=rfl
theorem tw4885481940346146585:0=0:=rfl
theorem tw8168251434273694521:0=0:=rfl
theorem tw16389116371011073849:0=0:=rfl
theorem tw13327719582044780345:0=0:=rfl
theorem tw251457714061242201:0=0:=rfl
theorem tw1166064249267137433:0=0:=rfl
theorem tw12296538662745882521:0=0:=rfl
theorem tw5318357428684407705:0=0:=rfl
theorem tw6865427136906609561:0=0:=rfl
theorem tw495509368961414073:0=0:=rfl
theorem tw10957801248983825337:0=0:=rfl
theorem tw2246350967073007545:0=0:=rfl
theorem tw1200174435829372889:0=0:=rfl
theorem tw13254109703674727385:0=0:=rfl
theorem tw7753400367004133434:0=0:=rfl
theorem tw10028822090857523450:0=0:=rfl
theorem tw3860646517198034266:0=0:=rfl
theorem tw15778348872114880954:0=0:=rfl
theorem tw7719632971462035930:0=0:=rfl
theorem tw13551769635242113562:0=0:=rfl
theorem tw14564553264124401210:0=0:=rfl
theorem tw6399218086366901850:0=0:=rfl
theorem tw16900701813344464474:0=0:=rfl
theorem tw15897671256858678906:0=0:=rfl
theorem tw17398496254569581210:0=0:=rfl
theorem tw1229655074570287834:0=0:=rfl
theorem tw1896058749312142074:0=0:=rfl
theorem tw8486224690159813402:0=0:=rfl
theorem tw2796452061890467674:0=0:=rfl
theorem tw7942525935013891962:0=0:=rfl
theorem tw6198226124687387514:0=0:=rfl
theorem tw5017541254091489210:0=0:=rfl
theorem tw8553061011205233626:0=0:=rfl
theorem tw1761306299282536475:0=0:=rfl
theorem tw12213917554121822267:0=0:=rfl
theorem tw16115926973802458203:0=0:=rfl
theorem tw4023162331035674715:0=0:=rfl
theorem tw6050110613875858587:0=0:=rfl
theorem tw844382340480571707:0=0:=rfl
theorem tw13480399189760810395:0=0:=rfl
theorem tw12389068281514453467:0=0:=rfl
theorem tw2108092008538248731:0=0:=rfl
theorem tw15102703641157314171:0=0:=rfl
theorem tw12277424745545750139:0=0:=rfl
theorem tw11027579079534873243:0=0:=rfl
theorem tw5667402129538115291:0=0:=rfl
theorem tw9488937018407786235:0=0:=rfl
theorem tw11537131212328571675:0=0:=rfl
theorem tw14373326196029260635:0=0:=rfl
theorem tw12030933412942492539:0=0:=rfl
theorem tw11260285460732139451:0=0:=rfl
theorem tw16422863801225284668:0=0:=rfl
theorem tw6512518659202278492:0=0:=rfl
theorem tw10904143202581725340:0=0:=rfl
theorem tw8688215831871977628:0=0:=rfl
theorem tw1625356145469253884:0=0:=rfl
theorem tw17415663804692018492:0=0:=rfl
theorem tw1552137327710517596:0=0:=rfl
theorem tw5992120219375563164:0=0:=rfl
theorem tw9824602406969851388:0=0:=rfl
theorem tw5034029860461759036:0=0:=rfl
theorem tw8481631804975825596:0=0:=rfl
theorem tw5830775289110014716:0=0:=rfl
theorem tw11518824174568472348:0=0:=rfl
theorem tw18442902514813895484:0=0:=rfl
theorem tw9990230189640781660:0=0:=rfl
theorem tw14957994970458394620:0=0:=rfl
theorem tw13750265895561109565:0=0:=rfl
theorem tw4366910467048489021:0=0:=rfl
theorem tw14250294453364127101:0=0:=rfl
theorem tw10365433583308578173:0=0:=rfl
theorem tw4588184030668563869:0=0:=rfl
theorem tw6928030712961710525:0=0:=rfl
theorem tw11388611007103011293:0=0:=rfl
theorem tw8975259582665225725:0=0:=rfl
theorem tw10665908138921500253:0=0:=rfl
theorem tw8080000247933598397:0=0:=rfl
theorem tw15220772323051973309:0=0:=rfl
theorem tw6619988984110421757:0=0:=rfl
theorem tw14443972656408183773:0=0:=rfl
theorem tw17439401817601568798:0=0:=rfl
theorem tw9918470533145430142:0=0:=rfl
theorem tw17936581351965074558:0=0:=rfl
theorem tw8133981007341681790:0=0:=rfl
theorem tw14747547476790932702:0=0:=rfl
theorem tw18057821647022999838:0=0:=rfl
theorem tw7133680490941338910:0=0:=rfl
theorem tw1942660680437305662:0=0:=rfl
theorem tw9091278623835018622:0=0:=rfl
theorem tw3999894917372662206:0=0:=rfl
theorem tw1577157632625778174:0=0:=rfl
theorem tw12891268234380157502:0=0:=rfl
theorem tw1820512745171576478:0=0:=rfl
theorem tw16480403041344452286:0=0:=rfl
theorem tw12667753545546114910:0=0:=rfl
theorem tw11511687436184715102:0=0:=rfl
theorem tw5496865609170238462:0=0:=rfl
theorem tw3154059823986077694:0=0:=rfl
theorem tw18123701443426456607:0=0:=rfl
theorem tw13846517783525419071:0=0:=rfl
theorem tw10017153129821753471:0=0:=rfl
theorem tw13802417004026442911:0=0:=rfl
theorem tw7537626811106736319:0=0:=rfl
theorem tw2917807097824191743:0=0:=rfl
theorem tw18350684618519878975:0=0:=rfl
theorem tw15479631682220562751:0=0:=rfl
theorem tw5835195292861775263:0=0:=rfl
theorem tw10075901019236090303:0=0:=rfl
theorem tw12813648862459906559:0=0:=rfl
theorem tw9028897906017253951:0=0:=rfl
theorem tw137623843636545087:0=0:=rfl
theorem tw14820190261879834239:0=0:=rfl
theorem tw4207348359991312063:0=0:=rfl
theorem tw4673632692722838271:0=0:=rfl
theorem tw6888972014818836223:0=0:=rfl
theorem tw7349764807433831167:0=0:=rfl
theorem tw18343072079394519839:0=0:=rfl
theorem tw9068696766008460159:0=0:=rfl
theorem tw6629455697631966207:0=0:=rfl
end PySem.W.Fast
open PySem PySem.W PyProof.Rows
local macro_rules | `(tactic| walk_at "row")=> `(tactic| first
 | (refine' Lake.row_fn ?a ?l ?c ?h;(case a=>k_is);(case l=>k_is);(case c=>k_is);(case h=>k_is))
 | (refine' Lake.row_mt ?a ?b ?l ?c ?h ?i;(case a=>k_is);(case b=>k_is);(case l=>k_is);(case c=>k_is);(case h=>k_is);(case i=>k_is))
 | (refine' Lake.row_mk ?a ?b ?l ?c ?h ?i ?m ?o;(case a=>k_is);(case b=>k_is);(case l=>k_is);(case c=>k_is);(case h=>k_is);(case i=>k_is);(case m=>k_is);(case o=>k_is))
 | (refine' Lake.row_md ?a ?b ?l ?c ?h ?i ?t ?u;(case a=>k_is);(case b=>k_is);(case l=>k_is);(case c=>k_is);(case h=>k_is);(case i=>k_is);(case t=>k_is);(case u=>exact .non .nil))
 | (refine' Lake.cl_in ?a ?b ?c ?d ?e ?_;(case a=>k_is);(case b=>k_is);(case c=>k_is);(case d=>k_is);(case e=>k_is))
 | (refine' Lake.cs_in ?a;(case a=>k_is))
 | (show Du _ _ _=_;k_is) | (show BX _ _ _=_;k_is))
set_option maxRecDepth 100000 in
set_option maxHeartbeats 0 in
theorem PySem.Challenge.cw_newsways_k18_put_on_and_taken_off_holds : PySem.Challenge.rw_newsways_k18_put_on_and_taken_off.Holds := by
 w_on;o_law;k_head;(case hw=>w_witness2)
 k_fill
 refine Lake.walkP (l:=PySem.Challenge.rw_newsways_k18_put_on_and_taken_off) Lake.M18.p Lake.M18.all (i:=57) rfl (by intro kV doc pm an cdv ct us hl;match us,hl with | [_],_=>rfl) rfl (by decide) rfl ⟨rfl,by decide,by decide,rfl⟩ rfl (λw h Y=>PySem.W.kIn_of Y) ?F
 case F=>
  intro w h KX;refine' And.intro ?_ (And.intro ?_ (And.intro ?_ ?_))
  (iterate 58 (refine' Lake.AllL.cons ?_ ?_;walk_at "row"));exact .nil
  (refine' Lake.AllL.cons ?_ ?_;walk_at "row";(iterate 2 (refine' Lake.AllL.cons ?_ ?_;walk_at "row"));exact .nil);(refine' Lake.AllL.cons ?_ ?_;walk_at "row";(iterate 3 (refine' Lake.AllL.cons ?_ ?_;walk_at "row"));exact .nil);exact .nil
  (iterate 2 (refine' Lake.AllL.cons ?_ ?_;walk_at "row"));exact .nil
  (iterate 24 (refine' Lake.AllL.cons ?_ ?_;walk_at "row"));exact .nil
