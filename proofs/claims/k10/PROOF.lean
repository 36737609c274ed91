import PyProof.Rows.All
import Wide.All
import OpenK.AllK
import Wide.FinOn
import Lean
import PyProof.EqAt
import PyProof.EqKinds
import PyProof.TupleCall
import PyProof.NeKinds
import KE.IntBitsLaws
import PyProof.StrWalks
import PyProof.FString5
import PyProof.ConsumeWalk
import PyProof.DictCompW
import PyProof.ZipIter
import PyProof.EnumMake
import PyProof.Rows.SetFrom
import KE.KRevSl
import PyProof.FitsBits
import PyProof.Rows.SortStr
import PyProof.StrBlockL
import PyProof.JoinWalk
import PyProof.AttrMissHeap
import PyProof.ListNew
import PyProof.DictUpdate
import PyProof.DictWalks
import KE.KSortTup
import PyProof.Rows.StrMeet
import KE.KSortKey
import PyProof.Rows.SortRuns
import PyProof.StationsW
import PyProof.RulesAs
import OpenK.KRaise
import PyProof.ExcInit
import PyProof.ExcBaseAll.ValueError
import PyProof.PassesOwn
import PyProof.NsDelKeeps
import PyProof.Rows.Catch
import PyProof.FString
import PyProof.Rows.FStr
import PyProof.ExcArgs
import PyProof.ExcAttrAll.ValueError
import PyProof.Rows.SortWalk
import PyProof.ListRange
import PyProof.ReprRoads
import PyProof.ReprText
import PyProof.CallFns
import KE.KEqDict
import PyProof.AutoListH
import PyProof.TupleKey
import PyProof.DictRoadsH
import PyProof.SliceStr2
import PyProof.StrOps2
import PyProof.Rows.StrMadeLen
import PyProof.StrLawsIn
import PySem.Challenge.RW_newsways_k10_the_greatest
set_option Elab.async false
set_option linter.all false
set_option maxRecDepth 100000
namespace L2
open PySem PySem.Spec PyProof.Rows
abbrev Key := Sum Int Str
def zgL : Key → Value → Bool
 | .inl k, v => Value.isInt k v
 | .inr x, v => Value.isStrOf x v
def keyH (w : World) : Key → Int
 | .inl k => hashInt k
 | .inr x => hashStr w x
theorem zaM : ∀ {k : Key} {v : Value}, zgL k v = true → (∃ i t, k = Sum.inl i ∧ v = Value.int i t) ∨ (∃ x t, k = Sum.inr x ∧ v = Value.str x t)
 | .inl i, v, h => by
  obtain ⟨t, e⟩ := Value.isInt_shape (k := i) (v := v) h
  exact .inl ⟨i, t, rfl, e⟩
 | .inr x, v, h => by
  obtain ⟨t, e⟩ := Value.isStrOf_shape (x := x) (v := v) h
  exact .inr ⟨x, t, rfl, e⟩
theorem zeW (i : Int) (t : Tok) : zgL (.inl i) (.int i t) = true := by simp [zgL, Value.isInt]
theorem zeV (x : Str) (t : Tok) : zgL (.inr x) (.str x t) = true := by simp [zgL, Value.isStrOf]
theorem zkL (a b : Int) : decide ((Sum.inl a : Key) = Sum.inl b) = (a == b) := by
 by_cases e : a = b
 · subst e; simp
 · have h : ¬ (Sum.inl a : Key) = Sum.inl b := fun q => e (Sum.inl.inj q)
   rw [decide_eq_false h]
   exact (beq_eq_false_iff_ne.mpr e).symm
theorem zkI (a b : Str) : decide ((Sum.inr a : Key) = Sum.inr b) = decide (a = b) := by
 by_cases e : a = b
 · subst e; simp
 · have h : ¬ (Sum.inr a : Key) = Sum.inr b := fun q => e (Sum.inr.inj q)
   rw [decide_eq_false h, decide_eq_false e]
theorem zkK (a : Int) (b : Str) : decide ((Sum.inl a : Key) = Sum.inr b) = false := decide_eq_false (fun q => nomatch q)
theorem zkJ (a : Str) (b : Int) : decide ((Sum.inr a : Key) = Sum.inl b) = false := decide_eq_false (fun q => nomatch q)
def zbn (prog : Program) (w : World) : PySem.KeyKind prog w Key where
 is := zgL
 hash := keyH w
 inj := fun v a b ha hb => by
  rcases zaM ha with ⟨i, t, rfl, rfl⟩ | ⟨x, t, rfl, rfl⟩
  · rcases zaM hb with ⟨j, u, rfl, e⟩ | ⟨y, u, rfl, e⟩
    · injection e with e1 _; rw [e1]
    · exact nomatch e
  · rcases zaM hb with ⟨j, u, rfl, e⟩ | ⟨y, u, rfl, e⟩
    · exact nomatch e
    · injection e with e1 _; rw [e1]
 byValue := fun k v h => by
  rcases zaM h with ⟨i, t, rfl, rfl⟩ | ⟨x, t, rfl, rfl⟩ <;> rfl
 pyHash := fun hv h => by
  rcases zaM hv with ⟨i, t, rfl, rfl⟩ | ⟨x, t, rfl, rfl⟩
  · exact wpAny_pyHash_int h
  · exact wpAny_pyHash_str h
 eqBool := fun hu hv h => by
  rcases zaM hu with ⟨i, t, rfl, rfl⟩ | ⟨x, t, rfl, rfl⟩
  · rcases zaM hv with ⟨j, u, rfl, rfl⟩ | ⟨y, u, rfl, rfl⟩
    · rw [zkL] at h; exact wpAny_eqBool_int h
    · rw [zkK] at h; exact SeqAt.EqAt.int_str i t y u _ _ _ _ h
  · rcases zaM hv with ⟨j, u, rfl, rfl⟩ | ⟨y, u, rfl, rfl⟩
    · rw [zkJ] at h; exact SeqAt.EqAt.str_int x t j u _ _ _ _ h
    · rw [zkI] at h; exact wpAny_eqBool_str h
 «strs» := fun k x t v h => by
  rcases zaM h with ⟨i, u, rfl, e⟩ | ⟨y, u, rfl, e⟩
  · exact nomatch e
  · injection e with e1 _
    subst e1
    cases v <;> rfl
theorem zfL (prog : Program) (w : World) (i : Int) (t : Tok) : (zbn prog w).is (.inl i) (.int i t) = true := zeW i t
theorem zfK (prog : Program) (w : World) (x : Str) (t : Tok) : (zbn prog w).is (.inr x) (.str x t) = true := zeV x t
inductive V where
 | non | bl (b : Bool) | int (i : Int) | str (x : Str) | byt (b : Array UInt8) | flt (b : UInt64) | ref (a : Addr) | ty (n : String)
 deriving DecidableEq
def RelV : V → Value → Prop
 | .non, u => u = Value.none
 | .bl b, u => u = Value.bool b
 | .int i, u => ∃ t, u = Value.int i t
 | .str x, u => ∃ t, u = Value.str x t
 | .byt b, u => ∃ t, u = Value.bytes b t
 | .flt b, u => ∃ t, u = Value.float b t
 | .ref a, u => u = Value.ref a
 | .ty n, u => u = Value.type n
abbrev Vals : List V → List Value → Prop := Paired RelV
theorem Vals.length {xs : List V} {us : List Value} (r : Vals xs us) : xs.length = us.length := Paired.length r
theorem Vals.get : ∀ {xs : List V} {us : List Value} {i : Nat} {x : V}, Vals xs us → xs[i]? = some x → ∃ u, us[i]? = some u ∧ RelV x u
 | _, _, _, _, .nil, e => by simp at e
 | _, _, 0, _, .cons r _, e => by simp at e; subst e; exact ⟨_, rfl, r⟩
 | _, _, i + 1, x, .cons _ t, e => by
  obtain ⟨u, h1, h2⟩ := Vals.get (i := i) (x := x) t (by simpa using e)
  exact ⟨u, by simpa using h1, h2⟩
theorem Vals.set {x : V} {u : Value} (r : RelV x u) : ∀ {xs : List V} {us : List Value} (i : Nat), Vals xs us → Vals (xs.set i x) (us.set i u)
 | _, _, _, .nil => .nil
 | _, _, 0, .cons _ t => .cons r t
 | _, _, i + 1, .cons q t => .cons q (Vals.set r i t)
theorem Vals.append : ∀ {xs ys : List V} {us ws : List Value}, Vals xs us → Vals ys ws → Vals (xs ++ ys) (us ++ ws)
 | _, _, _, _, .nil, s => s
 | _, _, _, _, .cons r t, s => .cons r (Vals.append t s)
theorem Vals.take : ∀ {xs : List V} {us : List Value} (n : Nat), Vals xs us → Vals (xs.take n) (us.take n)
 | _, _, 0, _ => .nil
 | _, _, _ + 1, .nil => .nil
 | _, _, n + 1, .cons r t => .cons r (Vals.take n t)
theorem Vals.drop : ∀ {xs : List V} {us : List Value} (n : Nat), Vals xs us → Vals (xs.drop n) (us.drop n)
 | _, _, 0, r => r
 | _, _, _ + 1, .nil => .nil
 | _, _, n + 1, .cons _ t => Vals.drop n t
def RelO : Option V → Option Value → Prop
 | some v, some u => RelV v u
 | none, none => True
 | _, _ => False
def KV {κ : Type} : List (κ × V) → List (κ × Value) → Prop := Paired fun (p : κ × V) (q : κ × Value) => p.1 = q.1 ∧ RelV p.2 q.2
def kV : Key → V
 | .inl i => .int i
 | .inr x => .str x
inductive HO where
 | lst (xs : List V)
 | tup (xs : List V)
 | dK (kvs : List (Key × V)) | dT (kvs : List (List Key × V))
 | set (S : Int → Bool) (n : Nat)
 | ins (C dx : Addr) (fs : List (Str × V))
 | own (x : Addr)
 | xd (fs : List (Str × V))
 | met (f x : Addr)
 | rng (lo hi : Int)
 | frz (o : Obj) (u : HO)
 | tbl (ps : Array Value)
 | ext (φ : Heap → Prop)
def IsTupP (h : Heap) (a : Addr) (items : Array Value) : Prop := ∃ o, h.get? a = some o ∧ o.cls = .type "tuple" ∧ o.dict = none ∧ ∃ n, o.data = .seq items n
theorem IsTupP.tup {h : Heap} {a : Addr} {items : Array Value} (x : IsTupP h a items) : IsTup h a items := let ⟨o, h1, h2, _, h3⟩ := x; ⟨o, h1, h2, h3⟩
theorem IsTupP.new (h : Heap) (items : Array Value) : IsTupP (h.push { cls := .type "tuple", data := .seq items }) h.objs.size items := ⟨_, Heap.get?_push_size _ rfl, rfl, rfl, _, rfl⟩
abbrev Hp := Addr → Option HO
def upd (H : Hp) (a : Addr) (o : HO) : Hp := fun b => if b = a then some o else H b
theorem zad {H : Hp} {a : Addr} {o : HO} : upd H a o a = some o := by unfold upd; rw [if_pos rfl]
theorem zak {H : Hp} {a b : Addr} {o : HO} (h : b ≠ a) : upd H a o b = H b := by unfold upd; rw [if_neg h]
theorem zhA {H : Hp} {a b : Addr} {o u : HO} (h : H a = some o) (h' : H b = some u) (d : o ≠ u) : a ≠ b := by
 intro e; subst e; rw [h] at h'; exact d (Option.some.inj h')
theorem zam {H : Hp} {a b : Addr} {o : HO} (h : H a = some o) (h' : H b = none) : a ≠ b := by
 intro e; subst e; rw [h] at h'; cases h'
section
variable (P : Program) (w : World)
def ObjOk (H : Hp) (h : Heap) (a : Addr) : HO → Prop
 | .lst xs => xs.length ≤ sizeLine ∧ ∃ (its : List Value) (n : Nat), Vals xs its ∧ h.get? a = some { cls := .type "list", data := .seq its.toArray n }
 | .tup xs => xs.length ≤ sizeLine ∧ ∃ its : List Value, Vals xs its ∧ IsTupP h a its.toArray
 | .dK kvs => kvs.length ≤ sizeLine ∧ (a == sysModules) = false ∧ ∃ vs, KV kvs vs ∧ h.DictOf (zbn P w) a vs
 | .dT kvs => kvs.length ≤ sizeLine ∧ (a == sysModules) = false ∧ ∃ xs : List (List Key × Addr × Value),
  Paired (fun (p : List Key × V) (q : List Key × Addr × Value) => p.1 = q.1 ∧ H q.2.1 = some (.tup (p.1.map kV)) ∧ RelV p.2 q.2.2) kvs xs ∧
  ∃ o es ep, h.get? a = some o ∧ o.ExactDict ∧ o.data = .dict es ep ∧ es.toList = xs.map (entryOfKey (tupleKind (zbn P w))) ∧ (xs.map (·.1)).Nodup
 | .set S n => h.SetOf (intKind P w) a S n
 | .ins C dx fs => H dx = some (.own a) ∧ fs.length ≤ 1000 ∧ dx ≠ a ∧ h.get? a = some (PySem.W.instObj C dx) ∧
  ∃ mA, h.Ns1 dx mA ∧ (∀ f, RelO (fs.lookup f) (mA f)) ∧ PySem.Within mA (fs.map (·.1))
 | .own _ => ∃ o, h.get? a = some o
 | .xd fs => ∃ mA, h.Ns1 a mA ∧ ∀ f, RelO (fs.lookup f) (mA f)
 | .rng lo hi => ∃ t u v, h.get? a = some { cls := .type "range", data := .fields #[.int lo t, .int hi u, .int 1 v] }
 | .frz o u => h.get? a = some o ∧ ObjOk H h a u
 | .tbl ps => h.get? a = some { cls := .none, data := .fields ps }
 | .met f x => h.get? a = some (PySem.W.methodObj (.ref f) (.ref x))
 | .ext φ => φ h ∧ (∃ o, h.get? a = some o) ∧ ∀ h1 h2 : Heap, φ h1 → (∀ o, h1.get? a = some o → h2.get? a = some o) → φ h2
def HOk (H : Hp) (h : Heap) : Prop := ∀ a o, H a = some o → ObjOk P w H h a o
end
section
variable {P : Program} {w : World} {H H' : Hp} {h h' : Heap} {a : Addr} {o : HO}
theorem ObjOk.lt (x : ObjOk P w H h a o) : a < h.objs.size := by
 cases o with
 | lst xs => obtain ⟨_, _, _, _, e⟩ := x; exact Heap.lt_size e
 | tup xs => obtain ⟨_, _, _, p⟩ := x; exact (show IsTupP _ _ _ from p).tup.lt
 | dK kvs => obtain ⟨_, _, _, _, o, _, _, e, _⟩ := x; exact Heap.lt_size e
 | dT kvs => obtain ⟨_, _, _, _, o, _, _, e, _⟩ := x; exact Heap.lt_size e
 | set S n => obtain ⟨o, _, _, _, e, _⟩ := x; exact Heap.lt_size e
 | ins C dx fs => obtain ⟨_, _, _, e, _⟩ := x; exact Heap.lt_size e
 | own y => obtain ⟨_, e⟩ := x; exact Heap.lt_size e
 | xd fs => obtain ⟨_, ⟨_, _, _, e, _⟩, _⟩ := x; exact Heap.lt_size e
 | rng lo hi => obtain ⟨_, _, _, e⟩ := x; exact Heap.lt_size e
 | frz ob u => obtain ⟨e, _⟩ := x; exact Heap.lt_size e
 | tbl ps => exact Heap.lt_size (show h.get? a = some _ from x)
 | met f y => exact Heap.lt_size (show h.get? a = some _ from x)
 | ext φ => obtain ⟨_, ⟨_, e⟩, _⟩ := x; exact Heap.lt_size e
theorem Paired.mapP {α β : Type} {F G : α → β → Prop} : ∀ {l₁ : List α} {l₂ : List β}, Paired F l₁ l₂ → (∀ a b, F a b → G a b) → Paired G l₁ l₂
 | _, _, .nil, _ => .nil
 | _, _, .cons r t, f => .cons (f _ _ r) (Paired.mapP t f)
theorem ObjOk.stay (x : ObjOk P w H h a o) (k : ∀ b u, (b = a ∨ H b = some (.own a)) → h.get? b = some u → h'.get? b = some u)
 (ho : ∀ b, H b = some (.own a) → H' b = some (.own a)) (ht : ∀ b xs, H b = some (.tup xs) → H' b = some (.tup xs)) : ObjOk P w H' h' a o := by
 induction o with
 | lst xs => obtain ⟨z, its, n, r, e⟩ := x; exact ⟨z, its, n, r, k _ _ (.inl rfl) e⟩
 | tup xs => obtain ⟨z, its, r, ob, e, c⟩ := x; exact ⟨z, its, r, ob, k _ _ (.inl rfl) e, c⟩
 | dK kvs => obtain ⟨z, y, vs, r, ob, es, ep, e, c⟩ := x; exact ⟨z, y, vs, r, ob, es, ep, k _ _ (.inl rfl) e, c⟩
 | dT kvs =>
  obtain ⟨z, y, xs, r, ob, es, ep, e, c⟩ := x
  exact ⟨z, y, xs, Paired.mapP r fun p q z => ⟨z.1, ht _ _ z.2.1, z.2.2⟩, ob, es, ep, k _ _ (.inl rfl) e, c⟩
 | set S n => obtain ⟨ob, es, ep, t, e, c⟩ := x; exact ⟨ob, es, ep, t, k _ _ (.inl rfl) e, c⟩
 | ins C dx fs =>
  obtain ⟨d, z, ne, e, mA, ⟨od, es, ep, e2, c⟩, r⟩ := x
  exact ⟨ho _ d, z, ne, k _ _ (.inl rfl) e, mA, ⟨od, es, ep, k _ _ (.inr d) e2, c⟩, r⟩
 | own y => obtain ⟨ob, e⟩ := x; exact ⟨ob, k _ _ (.inl rfl) e⟩
 | xd fs => obtain ⟨mA, ⟨od, es, ep, e, c⟩, r⟩ := x; exact ⟨mA, ⟨od, es, ep, k _ _ (.inl rfl) e, c⟩, r⟩
 | rng lo hi => obtain ⟨t, u, v, e⟩ := x; exact ⟨t, u, v, k _ _ (.inl rfl) e⟩
 | frz ob u ih => obtain ⟨e, q⟩ := x; exact ⟨k _ _ (.inl rfl) e, ih q⟩
 | tbl ps =>
  have e : h.get? a = some { cls := .none, data := .fields ps } := x
  show h'.get? a = some { cls := .none, data := .fields ps }
  exact k a _ (.inl rfl) e
 | met f y =>
  have e : h.get? a = some (PySem.W.methodObj (.ref f) (.ref y)) := x
  show h'.get? a = some (PySem.W.methodObj (.ref f) (.ref y))
  exact k a _ (.inl rfl) e
 | ext φ => obtain ⟨p, ⟨o, e⟩, st⟩ := x; exact ⟨st _ _ p fun o q => k _ _ (.inl rfl) q, ⟨o, k _ _ (.inl rfl) e⟩, st⟩
theorem HOk.lt (x : HOk P w H h) (e : H a = some o) : a < h.objs.size := (x a o e).lt
theorem HOk.fresh (x : HOk P w H h) (e : h.objs.size ≤ a) : H a = none := by
 cases q : H a with
 | none => rfl
 | some u => exact absurd (Nat.lt_of_lt_of_le (x.lt q) e) (Nat.lt_irrefl _)
theorem HOk.kept (x : HOk P w H h) (k : ∀ b u, h.get? b = some u → h'.get? b = some u) : HOk P w H h' := fun a o e =>
 (x a o e).stay (fun b u _ q => k b u q) (fun _ q => q) fun _ _ q => q
theorem HOk.laid (x : HOk P w H h) (k : ∀ b u, h.get? b = some u → h'.get? b = some u) (hp : h.objs.size ≤ a) (new : ObjOk P w (upd H a o) h' a o) : HOk P w (upd H a o) h' := fun b u e => by
 have hn := x.fresh hp
 by_cases hb : b = a
 · subst hb; rw [zad] at e; cases e; exact new
 · rw [zak hb] at e
   exact (x b u e).stay (fun c v _ q => k c v q) (fun c q => by rw [zak (zam q hn)]; exact q) fun c xs q => by rw [zak (zam q hn)]; exact q
end
def Rd (H : Hp) (a : Addr) (u : HO) : Prop := H a = some u ∨ ∃ o, H a = some (.frz o u)
theorem Rd.ok {P : Program} {w : World} {H : Hp} {h : Heap} {a : Addr} {u : HO} (r : Rd H a u) (x : HOk P w H h) : ObjOk P w H h a u := by
 rcases r with r | ⟨o, r⟩
 · exact x a u r
 · obtain ⟨_, q⟩ := x a _ r
   exact q
def Mut : Option HO → Prop
 | some (.lst _) => True
 | some (.dK _) => True
 | some (.dT _) => True
 | some (.set _ _) => True
 | some (.ins _ _ _) => True
 | some (.ext _) => True
 | _ => False
section
variable {P : Program} {w : World} {H : Hp} {h h' : Heap} {x e : Addr} {o' : HO}
theorem HOk.write (ok : HOk P w H h) (mu : Mut (H x)) (he : e = x ∨ H e = some (.own x)) (k : ∀ b u, b ≠ e → h.get? b = some u → h'.get? b = some u) (heo : ∃ u, h'.get? e = some u)
 (new : ObjOk P w (upd H x o') h' x o') : HOk P w (upd H x o') h' := fun b u q => by
 have nown : ∀ c y, H c = some (.own y) → c ≠ x := fun c y r z => by subst z; rw [r] at mu; exact mu
 have ntup : ∀ c xs, H c = some (.tup xs) → c ≠ x := fun c xs r z => by subst z; rw [r] at mu; exact mu
 by_cases hb : b = x
 · subst hb; rw [zad] at q; cases q; exact new
 · rw [zak hb] at q
   by_cases hbe : b = e
   · have q' : H b = some (.own x) := by
      rcases he with z | z
      · exact absurd (hbe.trans z) hb
      · rw [hbe]; exact z
     rw [q] at q'; cases q'
     obtain ⟨v, hv⟩ := heo
     exact ⟨v, by rw [hbe]; exact hv⟩
   · refine (ok b u q).stay (fun c v hc r => k c v ?_ r) (fun c r => by rw [zak (nown c b r)]; exact r) fun c xs r => by rw [zak (ntup c xs r)]; exact r
     rcases hc with rfl | hc
     · exact hbe
     · rintro rfl
       rcases he with z | z
       · exact nown c b hc z
       · rw [hc] at z; cases z; exact hb rfl
end
structure Un (fs ex : List Addr) (H H' : Hp) (h h' : Heap) : Prop where
 keep : ∀ b o, h.get? b = some o → H b = none → b ∉ fs → b ∉ ex → h'.get? b = some o
 slot : ∀ b o, h.get? b = some o → H b = none → b ∈ fs → b ∉ ex → ∃ sl, h'.get? b = some { o with slots := sl }
 free : ∀ b o, h.get? b = some o → H b = none → b ∉ ex → H' b = none
 there : ∀ b o, h.get? b = some o → b ∉ ex → ∃ o', h'.get? b = some o'
 tups : ∀ b xs, H b = some (.tup xs) → H' b = some (.tup xs)
 frzs : ∀ b o u, H b = some (.frz o u) → H' b = some (.frz o u)
 tbls : ∀ b ps, H b = some (.tbl ps) → ∃ more, H' b = some (.tbl (ps ++ more))
section
variable {fs fs' ex ex' : List Addr} {H H1 H2 : Hp} {h h1 h2 h' : Heap} {a x e : Addr} {o : HO}
theorem Un.any (u : Un fs ex H H1 h h1) {b : Addr} {ob : Obj} (q : h.get? b = some ob) (n : H b = none) (hx : b ∉ ex) : ∃ sl, h1.get? b = some { ob with slots := sl } := by
 by_cases hb : b ∈ fs
 · exact u.slot b ob q n hb hx
 · exact ⟨ob.slots, u.keep b ob q n hb hx⟩
theorem Un.kept (k : ∀ b u, h.get? b = some u → h'.get? b = some u) : Un fs ex H H h h' :=
 ⟨fun b ob q _ _ _ => k b ob q, fun b ob q _ _ _ => ⟨ob.slots, k b ob q⟩, fun _ _ _ n _ => n, fun b ob q _ => ⟨ob, k b ob q⟩, fun _ _ q => q, fun _ _ _ q => q, fun _ ps q => ⟨#[], by rw [q]; simp⟩⟩
theorem Un.refl : Un fs ex H H h h := Un.kept fun _ _ q => q
theorem Un.laid (k : ∀ b u, h.get? b = some u → h'.get? b = some u) (hp : h.objs.size ≤ a) (hn : H a = none) : Un fs ex H (upd H a o) h h' where
 keep := fun b u q _ _ _ => k b u q
 slot := fun b u q _ _ _ => ⟨u.slots, k b u q⟩
 free := fun b u q n _ => by rw [zak (Nat.ne_of_lt (Nat.lt_of_lt_of_le (Heap.lt_size q) hp))]; exact n
 there := fun b u q _ => ⟨u, k b u q⟩
 tups := fun b xs q => by rw [zak (zam q hn)]; exact q
 frzs := fun b u xs q => by rw [zak (zam q hn)]; exact q
 tbls := fun b ps q => ⟨#[], by rw [zak (zam q hn), q]; simp⟩
theorem Un.write (mu : Mut (H x)) (he : e = x ∨ H e = some (.own x)) (k : ∀ b u, b ≠ e → h.get? b = some u → h'.get? b = some u) (heo : ∃ u, h'.get? e = some u) : Un fs ex H (upd H x o) h h' := by
 have hx : ∀ b, H b = none → b ≠ x := fun b n z => by subst z; rw [n] at mu; exact mu
 have hb : ∀ b, H b = none → b ≠ e := fun b n z => by
  subst z
  rcases he with r | r
  · exact hx b n r
  · rw [n] at r; cases r
 have hm : ∀ b u, H b = some u → ¬ Mut (some u) → b ≠ x := fun b u q nm z => by subst z; rw [q] at mu; exact nm mu
 refine ⟨fun b u q n _ _ => k b u (hb b n) q, fun b u q n _ _ => ⟨u.slots, k b u (hb b n) q⟩, fun b u q n _ => by rw [zak (hx b n)]; exact n, fun b u q _ => ?_,
  fun b xs q => by rw [zak (hm b _ q fun z => z)]; exact q, fun b u xs q => by rw [zak (hm b _ q fun z => z)]; exact q, fun b ps q => ⟨#[], by rw [zak (hm b _ q fun z => z), q]; simp⟩⟩
 by_cases hbe : b = e
 · subst hbe; exact heo
 · exact ⟨u, k b u hbe q⟩
end
def trk (h : Heap) (H : Hp) : List Addr := (List.range h.objs.size).filter fun a => (H a).isSome
def hidT (h : Heap) (H : Hp) : Heap := PySem.W.hideAll h (trk h H)
theorem zhR (h : Heap) (H : Hp) : (hidT h H).objs.size = h.objs.size := PySem.W.hideAll_size _ _
theorem ziR {h : Heap} {H : Hp} {b : Addr} {o : Obj} (e : h.get? b = some o) (n : H b = none) : (hidT h H).get? b = some o :=
 PySem.W.hideAll_get _ e fun hm => by
  have q : (H b).isSome = true := (List.mem_filter.mp hm).2
  rw [n] at q; simp at q
theorem zjN {h : Heap} {H : Hp} {b : Addr} {o : Obj} (e : (hidT h H).get? b = some o) : h.get? b = some o ∧ H b = none := by
 have e' : h.get? b = some o := PySem.W.of_hideAll (trk h H) e
 refine ⟨e', ?_⟩
 cases q : H b with
 | none => rfl
 | some x =>
  have hm : b ∈ trk h H := List.mem_filter.mpr ⟨List.mem_range.mpr (Heap.lt_size e'), by simp [q]⟩
  have z : (hidT h H).get? b = none := PySem.W.hideAll_none (trk h H) hm
  rw [z] at e; cases e
def zj3 (g h : Heap) (L : Addr) : List (Addr × Obj) := (List.range h.objs.size).filterMap fun a => if a = L ∨ (g.get? a).isSome = true then none else (h.get? a).map fun o => (a, o)
def rest (g h : Heap) (L d : Addr) : List (Addr × Obj) := (zj3 g h L).filter fun p => decide (p.1 ≠ d)
structure Mod (K : PySem.W.Frag) (mg : Str → Option Value) (base : Heap) : Prop where
 kin : K.In base
 glob : base.Ns mainGlobals mg
 blt : ∃ mb, base.Ns builtinsNs mb ∧ ∀ x : Str, x ≠ "__name__" → mb x = bootBuiltins x
 nolimit : base.NoLimit
structure Cx where
 prog : Program
 w : World
 K : PySem.W.Frag
 mg : Str → Option Value
 base : Heap
 A : Around
 N : List Str
 s₀ : Shared
 H₀ : Hp
 env : Env
 outer : List Env
 stack : List Env
 ex : List Addr
 fn : Str → Bool
 calm : Bool
 pn : List (Addr × Obj)
 xe : Value → Shared → Prop
def frs (l : List Env) : List Addr := l.filterMap (·.frame)
abbrev Cx.fs (X : Cx) : List Addr := frs X.outer
def Vis (sc : Scope) (x : Str) : Prop := sc.names.lookup x = some .local ∨ sc.names.lookup x = some .cell ∨ sc.names.lookup x = some .free
def Loc (sc : Scope) (x : Str) : Prop := sc.names.lookup x = some .local ∨ sc.names.lookup x = some .cell
def Look (env : Env) (h : Heap) (m : Str → Option Value) (x : Str) (u : Value) : Prop :=
 (env.kindOf x = some .local ∧ m x = some u) ∨ ((env.kindOf x = some .cell ∨ env.kindOf x = some .free) ∧ ∃ c, env.cells.lookup x = some c ∧ h.IsCell c (some u))
structure Cx.Ok (X : Cx) : Prop where
 mod : Mod X.K X.mg X.base
 kind : X.env.scope.kind = .function
 glob : X.env.globals = mainGlobals
 blt : X.env.builtins = builtinsNs
 above : X.s₀.heap.objs.size ≤ X.env.locals
 inj : ∀ x y c, X.env.cells.lookup x = some c → X.env.cells.lookup y = some c → x = y
 has : ∀ x, (X.env.kindOf x = some .cell ∨ X.env.kindOf x = some .free) → ∃ c, X.env.cells.lookup x = some c
 cab : ∀ x c, X.fn x = true → X.env.cells.lookup x = some c → X.s₀.heap.objs.size ≤ c
 hd : X.calm = true → X.A.handled = none
 frames : X.A.frames = some X.stack
 stk : X.stack = X.outer ∨ (X.stack = X.env :: X.outer ∧ X.env.frame = some X.env.locals)
 exf : ∀ b ∈ X.ex, b ≠ X.env.locals ∧ ∀ x c, X.env.cells.lookup x = some c → c ≠ b
 bs : ∀ b o, X.base.get? b = some o → X.s₀.heap.get? b = some o ∧ X.H₀ b = none
 bsz : X.base.objs.size ≤ X.s₀.heap.objs.size
 noex : ∀ b o, X.base.get? b = some o → b ∉ X.ex
 exfs : ∀ b ∈ X.ex, b ∉ X.fs
 funs : X.s₀.heap.FunFrames X.base X.outer
 frf : ∀ b ∈ X.fs, X.H₀ b = none
structure Inv (X : Cx) (pins : List (Addr × Obj)) (σ : List (Option V)) (H : Hp) (s : Shared) : Prop where
 ok : X.Ok
 os : s.os = X.s₀.os
 bare : AllBare s.gens
 base : Un X.fs X.ex X.H₀ H X.s₀.heap s.heap
 loc : ∃ m, s.heap.Ns X.env.locals m ∧ ∀ (i : Nat) (x : Str) (v : V), X.N[i]? = some x → σ[i]? = some (some v) → Vis X.env.scope x → ∃ u, RelV v u ∧ Look X.env s.heap m x u
 cell : ∀ x c, X.env.cells.lookup x = some c → ∃ v, s.heap.IsCell c v
 free : H X.env.locals = none
 freeC : ∀ x c, X.env.cells.lookup x = some c → H c = none
 pin : ∀ p ∈ X.pn ++ pins, s.heap.get? p.1 = some p.2 ∧ H p.1 = none ∧ p.1 ≠ X.env.locals ∧ p.1 ∉ X.fs ∧ ∀ v, p.2.data ≠ .cell v
 hok : HOk X.prog X.w H s.heap
 len : σ.length = X.N.length
section
variable {X : Cx} {pins : List (Addr × Obj)} {σ : List (Option V)} {H H' : Hp} {s : Shared} {h' : Heap}
theorem Cx.Ok.nofr (ok : X.Ok) {b : Addr} {o : Obj} (e : X.base.get? b = some o) : b ∉ X.fs := fun hb => by
 have := (ok.funs.mem hb).1
 rw [e] at this; cases this
theorem Inv.bs (I : Inv X pins σ H s) : ∀ b o, X.base.get? b = some o → s.heap.get? b = some o ∧ H b = none := fun b o e =>
 ⟨I.base.keep b o (I.ok.bs b o e).1 (I.ok.bs b o e).2 (I.ok.nofr e) (I.ok.noex b o e), I.base.free b o (I.ok.bs b o e).1 (I.ok.bs b o e).2 (I.ok.noex b o e)⟩
theorem Inv.bk (I : Inv X pins σ H s) : ∀ b o, X.base.get? b = some o → s.heap.get? b = some o := fun b o e => (I.bs b o e).1
theorem Inv.mod (I : Inv X pins σ H s) : Mod X.K X.mg X.base := I.ok.mod
theorem Inv.kIn (I : Inv X pins σ H s) : X.K.In s.heap := I.ok.mod.kin.keeps I.bk
theorem Inv.lt (I : Inv X pins σ H s) : X.env.locals < s.heap.objs.size := let ⟨_, hn, _⟩ := I.loc; hn.lt
theorem Inv.sz (I : Inv X pins σ H s) : X.s₀.heap.objs.size ≤ s.heap.objs.size := Nat.le_trans I.ok.above (Nat.le_of_lt I.lt)
theorem Inv.nofs (I : Inv X pins σ H s) {a : Addr} (h : s.heap.objs.size ≤ a) : a ∉ X.fs := fun hb => by
 obtain ⟨_, o, ho, _⟩ := I.ok.funs.mem hb
 exact absurd (Nat.lt_of_lt_of_le (Heap.lt_size ho) (Nat.le_trans I.sz h)) (Nat.lt_irrefl _)
theorem Inv.cne (I : Inv X pins σ H s) : ∀ x c, X.env.cells.lookup x = some c → c ≠ X.env.locals := fun x c e z => by
 obtain ⟨v, o, ho, hd⟩ := I.cell x c e
 obtain ⟨m, ⟨o', es, ep, ho', hd', _⟩, _⟩ := I.loc
 rw [z, ho'] at ho; cases ho; rw [hd'] at hd; cases hd
theorem Inv.funs (I : Inv X pins σ H s) : s.heap.FunFrames X.base X.outer := by
 have all : ∀ (l : List Env), (∀ b ∈ frs l, b ∈ X.fs) → X.s₀.heap.FunFrames X.base l → s.heap.FunFrames X.base l := by
  intro l
  induction l with
  | nil => intro _ _; trivial
  | cons env r ih =>
   intro hs hl
   obtain ⟨hk, ⟨L, o, hf, hn, ho, hd⟩, hr⟩ := hl
   have hL : L ∈ X.fs := hs L (by unfold frs; rw [List.filterMap_cons, hf]; exact List.mem_cons_self)
   obtain ⟨sl, e⟩ := I.base.slot L o ho (I.ok.frf L hL) hL fun z => I.ok.exfs L z hL
   exact ⟨hk, ⟨L, _, hf, hn, e, hd⟩, ih (fun b hb => hs b (by unfold frs; rw [List.filterMap_cons, hf]; exact List.mem_cons_of_mem _ hb)) hr⟩
 exact all X.outer (fun _ hb => hb) I.ok.funs
theorem Inv.stack (I : Inv X pins σ H s) : s.heap.FunFrames X.base X.stack := by
 rcases I.ok.stk with e | ⟨e, hf⟩
 · rw [e]; exact I.funs
 · rw [e]
   obtain ⟨m, hn, _⟩ := I.loc
   refine .cons (by rw [I.ok.kind]; decide) hf hn ?_ I.funs
   exact Heap.get?_none_of_le (Nat.le_trans I.ok.bsz I.ok.above)
theorem Inv.stkSub (I : Inv X pins σ H s) : ∀ b ∈ frs X.stack, b ∈ X.env.locals :: X.fs := fun b hb => by
 rcases I.ok.stk with e | ⟨e, hf⟩
 · rw [e] at hb; exact List.mem_cons_of_mem _ hb
 · rw [e] at hb
   unfold frs at hb
   rw [List.filterMap_cons, hf] at hb
   exact hb
theorem Inv.stkFree (I : Inv X pins σ H s) : ∀ b ∈ frs X.stack, H b = none := fun b hb => by
 rcases List.mem_cons.mp (I.stkSub b hb) with e | hb
 · rw [e]; exact I.free
 · obtain ⟨_, o, ho, _⟩ := I.ok.funs.mem hb
   exact I.base.free b o ho (I.ok.frf b hb) fun z => I.ok.exfs b z hb
theorem Inv.step {g' : Array GenState} {t' : Nat} {d' : Drawn} {ch : List Addr} (I : Inv X pins σ H s)
 (hch : ∀ b ∈ ch, (b ∈ X.ex ∨ X.s₀.heap.objs.size ≤ b) ∧ b ≠ X.env.locals ∧ (∀ x c, X.env.cells.lookup x = some c → c ≠ b) ∧ ∀ p ∈ X.pn ++ pins, p.1 ≠ b)
 (keep : ∀ b o, b ≠ X.env.locals → b ∉ X.fs → b ∉ ch → s.heap.get? b = some o → H b = none → h'.get? b = some o)
 (slot : ∀ b o, b ≠ X.env.locals → b ∈ X.fs → b ∉ ch → s.heap.get? b = some o → H b = none → ∃ sl, h'.get? b = some { o with slots := sl }) (free : ∀ b o, b ∉ ch → s.heap.get? b = some o → H b = none → H' b = none)
 (there : ∀ b o, b ∉ ch → s.heap.get? b = some o → ∃ o', h'.get? b = some o')
 (tups : ∀ b xs, H b = some (.tup xs) → H' b = some (.tup xs)) (frzs : ∀ b o u, H b = some (.frz o u) → H' b = some (.frz o u)) (tbls : ∀ b ps, H b = some (.tbl ps) → ∃ more, H' b = some (.tbl (ps ++ more)))
 (ns : ∀ m, s.heap.Ns X.env.locals m → h'.Ns X.env.locals m) (hok : HOk X.prog X.w H' h') (hg : AllBare g') :
 Inv X pins σ H' { s with heap := h', gens := g', drawn := d', toks := t' } := by
 have neL : ∀ b o, X.s₀.heap.get? b = some o → b ≠ X.env.locals := fun b o e => Nat.ne_of_lt (Nat.lt_of_lt_of_le (Heap.lt_size e) I.ok.above)
 have neC : ∀ b o, X.s₀.heap.get? b = some o → b ∉ X.ex → b ∉ ch := fun b o e hx hb => by
  rcases (hch b hb).1 with z | z
  · exact hx z
  · exact absurd (Nat.lt_of_lt_of_le (Heap.lt_size e) z) (Nat.lt_irrefl _)
 have cellK : ∀ x c, X.env.cells.lookup x = some c → ∀ v, s.heap.IsCell c v → h'.IsCell c v := fun x c e v ⟨o, ho, hd⟩ => by
  have nch : c ∉ ch := fun z => (hch c z).2.2.1 x c e rfl
  by_cases hc : c ∈ X.fs
  · obtain ⟨sl, q⟩ := slot c o (I.cne x c e) hc nch ho (I.freeC x c e)
    exact ⟨_, q, hd⟩
  · exact ⟨o, keep c o (I.cne x c e) hc nch ho (I.freeC x c e), hd⟩
 refine ⟨I.ok, I.os, hg, ⟨fun b o e n hb hx => ?_, fun b o e n hb hx => ?_, fun b o e n hx => ?_, fun b o e hx => ?_, fun b xs e => tups b xs (I.base.tups b xs e), fun b o xs e => frzs b o xs (I.base.frzs b o xs e), fun b ps e => ?_⟩, ?_, fun x c e => ?_, ?_, fun x c e => ?_, fun p hp => ?_, hok, I.len⟩
 · exact keep b o (neL b o e) hb (neC b o e hx) (I.base.keep b o e n hb hx) (I.base.free b o e n hx)
 · obtain ⟨sl, e1⟩ := I.base.slot b o e n hb hx
   obtain ⟨sl', e2⟩ := slot b _ (neL b o e) hb (neC b o e hx) e1 (I.base.free b o e n hx)
   exact ⟨sl', e2⟩
 · obtain ⟨o', e1⟩ := I.base.there b o e hx
   exact free b o' (neC b o e hx) e1 (I.base.free b o e n hx)
 · obtain ⟨o', e1⟩ := I.base.there b o e hx
   exact there b o' (neC b o e hx) e1
 · obtain ⟨m1, e1⟩ := I.base.tbls b ps e
   obtain ⟨m2, e2⟩ := tbls b _ e1
   exact ⟨m1 ++ m2, by rw [e2, Array.append_assoc]⟩
 · obtain ⟨m, hn, hl⟩ := I.loc
   refine ⟨m, ns m hn, fun i x v e1 e2 e3 => ?_⟩
   obtain ⟨u, r, l⟩ := hl i x v e1 e2 e3
   refine ⟨u, r, ?_⟩
   rcases l with l | ⟨k, c, e, z⟩
   · exact .inl l
   · exact .inr ⟨k, c, e, cellK x c e _ z⟩
 · obtain ⟨v, z⟩ := I.cell x c e
   exact ⟨v, cellK x c e v z⟩
 · obtain ⟨m, ⟨o, _, _, ho, _⟩, _⟩ := I.loc
   exact free _ o (fun z => (hch _ z).2.1 rfl) ho I.free
 · obtain ⟨v, o, ho, hd⟩ := I.cell x c e
   exact free c o (fun z => (hch c z).2.2.1 x c e rfl) ho (I.freeC x c e)
 · obtain ⟨e, n, ne, nf, d⟩ := I.pin p hp
   have nch : p.1 ∉ ch := fun z => (hch p.1 z).2.2.2 p hp rfl
   exact ⟨keep p.1 p.2 ne nf nch e n, free p.1 p.2 nch e n, ne, nf, d⟩
theorem Inv.un {t' : Nat} (I : Inv X pins σ H s) (u : Un X.fs [] H H' s.heap h') (hok : HOk X.prog X.w H' h') : Inv X pins σ H' { s with heap := h', toks := t' } := by
 obtain ⟨m, ⟨o, es, ep, ho, r⟩, _⟩ := id I.loc
 obtain ⟨sl, hL⟩ := u.any ho I.free (by simp)
 exact I.step (g' := s.gens) (d' := s.drawn) (ch := []) (fun _ z => nomatch z) (fun b o _ hb _ e n => u.keep b o e n hb (by simp)) (fun b o _ hb _ e n => u.slot b o e n hb (by simp)) (fun b o _ e n => u.free b o e n (by simp)) (fun b o _ e => u.there b o e (by simp)) u.tups u.frzs u.tbls (fun m' hm => by
  obtain ⟨o', es', ep', ho', r'⟩ := hm
  rw [ho] at ho'; cases ho'
  exact ⟨_, es', ep', hL, r'⟩) hok I.bare
theorem Inv.call {g' : Array GenState} {t' : Nat} {d' : Drawn} {ch : List Addr} (I : Inv X pins σ H s) (u : Un (frs X.stack) ch H H' s.heap h') (hok : HOk X.prog X.w H' h') (hg : AllBare g')
 (hch : ∀ b ∈ ch, (b ∈ X.ex ∨ X.s₀.heap.objs.size ≤ b) ∧ b ≠ X.env.locals ∧ (∀ x c, X.env.cells.lookup x = some c → c ≠ b) ∧ ∀ p ∈ X.pn ++ pins, p.1 ≠ b) :
 Inv X pins σ H' { s with heap := h', gens := g', drawn := d', toks := t' } := by
 obtain ⟨m, ⟨o, es, ep, ho, r⟩, _⟩ := id I.loc
 obtain ⟨sl, hL⟩ := u.any ho I.free fun z => (hch _ z).2.1 rfl
 exact I.step (ch := ch) hch (fun b o hL hb hc e n => u.keep b o e n (fun z => (List.mem_cons.mp (I.stkSub b z)).elim hL hb) hc) (fun b o _ _ hc e n => u.any e n hc) (fun b o hc e n => u.free b o e n hc) (fun b o hc e => u.there b o e hc) u.tups u.frzs u.tbls (fun m' hm => by
  obtain ⟨o', es', ep', ho', r'⟩ := hm
  rw [ho] at ho'; cases ho'
  exact ⟨_, es', ep', hL, r'⟩) hok hg
theorem Inv.turned {t' : Nat} {it : Addr} (I : Inv X pins σ H s) (k : ∀ b o, b ≠ it → s.heap.get? b = some o → h'.get? b = some o) (hn : H it = none) (hL : it ≠ X.env.locals)
 (h1 : it ∈ X.ex ∨ X.s₀.heap.objs.size ≤ it) (h2 : ∀ x c, X.env.cells.lookup x = some c → c ≠ it) (h3 : ∀ p ∈ X.pn ++ pins, p.1 ≠ it) : Inv X pins σ H { s with heap := h', toks := t' } := by
 have nit : ∀ b u, H b = some u → b ≠ it := fun b u e z => by rw [z, hn] at e; cases e
 refine I.step (g' := s.gens) (d' := s.drawn) (ch := [it]) (fun b hb => ?_) (fun b o _ _ hc e _ => k b o (fun z => hc (by simp [z])) e) (fun b o _ _ hc e _ => ⟨o.slots, k b o (fun z => hc (by simp [z])) e⟩) (fun _ _ _ _ n => n)
  (fun b o hc e => ⟨o, k b o (fun z => hc (by simp [z])) e⟩) (fun _ _ e => e) (fun _ _ _ e => e) (fun b ps e => ⟨#[], by rw [e]; simp⟩) (fun m hm => ?_) (fun b u e => ?_) I.bare
 · have e : b = it := by simpa using hb
   subst e
   exact ⟨h1, hL, h2, h3⟩
 · obtain ⟨o, es, ep, ho, r⟩ := hm
   exact ⟨o, es, ep, k _ o (Ne.symm hL) ho, r⟩
 · refine (I.hok b u e).stay (fun c v hc q => k c v ?_ q) (fun _ q => q) fun _ _ q => q
   rcases hc with z | z
   · rw [z]; exact nit b u e
   · exact nit c _ z
theorem Inv.tok (I : Inv X pins σ H s) (t : Nat) : Inv X pins σ H { s with toks := t } := I.un (h' := s.heap) (t' := t) Un.refl I.hok
theorem Inv.kept {t' : Nat} (I : Inv X pins σ H s) (k : ∀ b u, s.heap.get? b = some u → h'.get? b = some u) : Inv X pins σ H { s with heap := h', toks := t' } := I.un (Un.kept k) (I.hok.kept k)
theorem Inv.laid {a : Addr} {o : HO} {t' : Nat} (I : Inv X pins σ H s) (k : ∀ b u, s.heap.get? b = some u → h'.get? b = some u) (hp : s.heap.objs.size ≤ a) (new : ObjOk X.prog X.w (upd H a o) h' a o) :
 Inv X pins σ (upd H a o) { s with heap := h', toks := t' } := I.un (Un.laid k hp (I.hok.fresh hp)) (I.hok.laid k hp new)
theorem Inv.write {x e : Addr} {o : HO} {t' : Nat} (I : Inv X pins σ H s) (mu : Mut (H x)) (he : e = x ∨ H e = some (.own x)) (k : ∀ b u, b ≠ e → s.heap.get? b = some u → h'.get? b = some u) (heo : ∃ u, h'.get? e = some u)
 (new : ObjOk X.prog X.w (upd H x o) h' x o) : Inv X pins σ (upd H x o) { s with heap := h', toks := t' } := I.un (Un.write mu he k heo) (I.hok.write mu he k heo new)
theorem Inv.pins_of {pins' : List (Addr × Obj)} (I : Inv X pins σ H s) (h : ∀ p ∈ pins', s.heap.get? p.1 = some p.2 ∧ H p.1 = none ∧ p.1 ≠ X.env.locals ∧ p.1 ∉ X.fs ∧ ∀ v, p.2.data ≠ .cell v) : Inv X pins' σ H s :=
 ⟨I.ok, I.os, I.bare, I.base, I.loc, I.cell, I.free, I.freeC, fun p hp => (List.mem_append.mp hp).elim (fun z => I.pin p (List.mem_append_left _ z)) (h p), I.hok, I.len⟩
theorem zgi {N : List Str} (hN : N.Nodup) {i j : Nat} {x : Str} (a : N[i]? = some x) (b : N[j]? = some x) : i = j := by
 obtain ⟨h1, e1⟩ := List.getElem?_eq_some_iff.mp a
 obtain ⟨h2, e2⟩ := List.getElem?_eq_some_iff.mp b
 exact (List.getElem_inj hN).mp (e1.trans e2.symm)
theorem zeE {M : Model} {A : Around} {E : Value → Shared → Prop} {i : Nat} {x : Str} {v : V} {u : Value} {Q : Unit → Shared → Prop} (I : Inv X pins σ H s) (hN : X.N.Nodup) (hi : X.N[i]? = some x) (hx : Loc X.env.scope x) (r : RelV v u)
 (h : ∀ s', Inv X pins (σ.set i (some v)) H s' → (∃ a, Heap.SameBut a s.heap s'.heap ∧ (a = X.env.locals ∨ X.env.cells.lookup x = some a)) → Q () s') (hf : X.fn x = true ∨ X.env.scope.names.lookup x = some .local := by first | exact .inl rfl | exact .inr rfl | assumption) : wpAny M A (storeName X.env x u) Q E s := by
 obtain ⟨m, hn, hl⟩ := id I.loc
 have hcls : (X.env.scope.kind == .class || (X.env.scope.kind == .module && X.env.locals != X.env.globals)) = false := by rw [I.ok.kind]; rfl
 have hiσ : i < σ.length := by rw [I.len]; exact (List.getElem?_eq_some_iff.mp hi).1
 have cne := I.cne
 have tracked : ∀ {a : Addr} {h' : Heap}, (∃ o, s.heap.get? a = some o ∧ H a = none) → Heap.SameBut a s.heap h' → HOk X.prog X.w H h' := fun {a h'} ha hs b ob e => by
  obtain ⟨_, _, hfree⟩ := ha
  refine (I.hok b ob e).stay (fun c w' hc q => (hs.2 c ?_).trans q) (fun _ q => q) fun _ _ q => q
  rintro rfl
  rcases hc with rfl | hc
  · rw [hfree] at e; cases e
  · rw [hfree] at hc; cases hc
 rcases hx with hk | hk
 · refine wpAny_storeName_local hk hn (fun h' hn' hs => ?_) hcls
   obtain ⟨oL, _, _, hoL, _⟩ := id hn
   refine h _ ⟨I.ok, I.os, I.bare, ⟨fun b o e n hb hx => ?_, fun b o e n hb hx => ?_, I.base.free, fun b o e hx => ?_, I.base.tups, I.base.frzs, I.base.tbls⟩, ⟨_, hn', fun j y v' e1 e2 e3 => ?_⟩, fun y c e => ?_, I.free, I.freeC, fun p hp => ?_, tracked ⟨oL, hoL, I.free⟩ hs, by simpa using I.len⟩ ⟨_, hs, .inl rfl⟩
   · exact (hs.2 b (Nat.ne_of_lt (Nat.lt_of_lt_of_le (Heap.lt_size e) I.ok.above))).trans (I.base.keep b o e n hb hx)
   · obtain ⟨sl, e1⟩ := I.base.slot b o e n hb hx
     exact ⟨sl, (hs.2 b (Nat.ne_of_lt (Nat.lt_of_lt_of_le (Heap.lt_size e) I.ok.above))).trans e1⟩
   · obtain ⟨o', e1⟩ := I.base.there b o e hx
     exact ⟨o', (hs.2 b (Nat.ne_of_lt (Nat.lt_of_lt_of_le (Heap.lt_size e) I.ok.above))).trans e1⟩
   · by_cases hj : j = i
     · subst hj
       rw [hi] at e1; cases e1
       rw [List.getElem?_set_self hiσ] at e2
       cases e2
       exact ⟨u, r, .inl ⟨hk, by simp⟩⟩
     · rw [List.getElem?_set_ne (Ne.symm hj)] at e2
       obtain ⟨u', r', q⟩ := hl j y v' e1 e2 e3
       refine ⟨u', r', ?_⟩
       rcases q with ⟨k, e⟩ | ⟨k, c, e, z⟩
       · refine .inl ⟨k, ?_⟩
         have : y ≠ x := fun e => hj (zgi hN e1 (e ▸ hi))
         simp [this, e]
       · exact .inr ⟨k, c, e, z.sameBut hs (cne y c e)⟩
   · obtain ⟨w', z⟩ := I.cell y c e
     exact ⟨w', z.sameBut hs (cne y c e)⟩
   · obtain ⟨e, n, ne, nf, d⟩ := I.pin p hp
     exact ⟨(hs.2 p.1 ne).trans e, n, ne, nf, d⟩
 · have hfn : X.fn x = true := by
    rcases hf with z | z
    · exact z
    · rw [z] at hk; cases hk
   obtain ⟨c, hc⟩ := I.ok.has x (.inl hk)
   obtain ⟨w', z⟩ := I.cell x c hc
   refine wpAny_storeName_cell I.ok.kind hk hc z (fun h' hc' hs => ?_)
   obtain ⟨oc, hoc, hocd⟩ := id z
   refine h { s with heap := h' } ⟨I.ok, I.os, I.bare, ⟨fun b o e n hb hx => ?_, fun b o e n hb hx => ?_, I.base.free, fun b o e hx => ?_, I.base.tups, I.base.frzs, I.base.tbls⟩, ⟨m, hn.sameBut hs (Ne.symm (cne x c hc)), fun j y v' e1 e2 e3 => ?_⟩, fun y c' e => ?_, I.free, I.freeC, fun p hp => ?_, tracked ⟨oc, hoc, I.freeC x c hc⟩ hs, by simpa using I.len⟩ ⟨c, hs, .inr hc⟩
   · exact (hs.2 b (Nat.ne_of_lt (Nat.lt_of_lt_of_le (Heap.lt_size e) (I.ok.cab x c hfn hc)))).trans (I.base.keep b o e n hb hx)
   · obtain ⟨sl, e1⟩ := I.base.slot b o e n hb hx
     exact ⟨sl, (hs.2 b (Nat.ne_of_lt (Nat.lt_of_lt_of_le (Heap.lt_size e) (I.ok.cab x c hfn hc)))).trans e1⟩
   · obtain ⟨o', e1⟩ := I.base.there b o e hx
     exact ⟨o', (hs.2 b (Nat.ne_of_lt (Nat.lt_of_lt_of_le (Heap.lt_size e) (I.ok.cab x c hfn hc)))).trans e1⟩
   · by_cases hj : j = i
     · subst hj
       rw [hi] at e1; cases e1
       rw [List.getElem?_set_self hiσ] at e2
       cases e2
       exact ⟨u, r, .inr ⟨.inl hk, c, hc, hc'⟩⟩
     · rw [List.getElem?_set_ne (Ne.symm hj)] at e2
       obtain ⟨u', r', q⟩ := hl j y v' e1 e2 e3
       refine ⟨u', r', ?_⟩
       rcases q with q | ⟨k, c', e, z'⟩
       · exact .inl q
       · refine .inr ⟨k, c', e, z'.sameBut hs ?_⟩
         rintro rfl
         exact hj (zgi hN e1 (I.ok.inj _ _ _ e hc ▸ hi))
   · by_cases hcc : c' = c
     · subst hcc; exact ⟨_, hc'⟩
     · obtain ⟨w2, z2⟩ := I.cell y c' e
       exact ⟨w2, z2.sameBut hs hcc⟩
   · obtain ⟨e, n, ne, nf, d⟩ := I.pin p hp
     refine ⟨(hs.2 p.1 ?_).trans e, n, ne, nf, d⟩
     intro q
     rw [q, hoc] at e
     have q' : oc = p.2 := Option.some.inj e
     exact d w' (by rw [← q']; exact hocd)
theorem zf9 {M : Model} {A : Around} {E : Value → Shared → Prop} {i : Nat} {x : Str} {v : V} {u : Value} {Q : Unit → Shared → Prop} (I : Inv X pins σ H s) (hN : X.N.Nodup) (hi : X.N[i]? = some x) (hx : Loc X.env.scope x) (r : RelV v u)
 (h : ∀ s', Inv X pins (σ.set i (some v)) H s' → Q () s') (hf : X.fn x = true ∨ X.env.scope.names.lookup x = some .local := by first | exact .inl rfl | exact .inr rfl | assumption) : wpAny M A (storeName X.env x u) Q E s :=
 zeE I hN hi hx r (fun s' I' _ => h s' I') hf
theorem Inv.call' {s' : Shared} {ch : List Addr} (I : Inv X pins σ H s) (ho : s'.os = s.os) (u : Un (frs X.stack) ch H H' s.heap s'.heap) (hok : HOk X.prog X.w H' s'.heap) (hg : AllBare s'.gens)
 (hch : ∀ b ∈ ch, (b ∈ X.ex ∨ X.s₀.heap.objs.size ≤ b) ∧ b ≠ X.env.locals ∧ (∀ x c, X.env.cells.lookup x = some c → c ≠ b) ∧ ∀ p ∈ X.pn ++ pins, p.1 ≠ b) : Inv X pins σ H' s' := by
 obtain ⟨h', g', d', t', o'⟩ := s'
 have e : o' = s.os := ho
 subst e
 exact I.call (g' := g') (t' := t') (d' := d') u hok hg hch
end
abbrev XK := Value → Option Addr → Hp → Prop
abbrev St := List (Option V)
abbrev VK := V → Hp → Prop
abbrev TE := St → Hp → VK → Prop
abbrev TT := St → Hp → (Bool → Hp → Prop) → Prop
abbrev TA := St → Hp → (List V → Hp → Prop) → Prop
structure Ends where
 nx : St → Hp → Prop
 rt : VK
 bk : St → Hp → Prop := fun _ _ => False
 ct : St → Hp → Prop := fun _ _ => False
abbrev TS := Ends → St → Hp → Prop
def EP (X : Cx) (pins : List (Addr × Obj)) (σ : St) (Q : VK) (u : Value) (s' : Shared) : Prop := ∃ v H', Inv X pins σ H' s' ∧ RelV v u ∧ Q v H'
def TP (X : Cx) (pins : List (Addr × Obj)) (σ : St) (Q : Bool → Hp → Prop) (b : Bool) (s' : Shared) : Prop := ∃ H', Inv X pins σ H' s' ∧ Q b H'
def AP (X : Cx) (pins : List (Addr × Obj)) (σ : St) (Q : List V → Hp → Prop) (us : List Value) (s' : Shared) : Prop := ∃ vs H', Inv X pins σ H' s' ∧ Vals vs us ∧ Q vs H'
def SP (X : Cx) (pins : List (Addr × Obj)) (D : Ends) (f : Flow) (s' : Shared) : Prop :=
 match f with
 | .next => ∃ σ' H', Inv X pins σ' H' s' ∧ D.nx σ' H'
 | .brk => ∃ σ' H', Inv X pins σ' H' s' ∧ D.bk σ' H'
 | .cont => ∃ σ' H', Inv X pins σ' H' s' ∧ D.ct σ' H'
 | .ret u => ∃ v σ' H', Inv X pins σ' H' s' ∧ RelV v u ∧ D.rt v H'
def PE (X : Cx) (e : Expr) (t : TE) : Prop :=
 ∀ (pins : List (Addr × Obj)) (s : Shared) (σ : St) (H : Hp) (Q : VK), Inv X pins σ H s → t σ H Q → wpAny (model X.prog X.w) X.A (eval e X.env) (EP X pins σ Q) X.xe s
def PT (X : Cx) (e : Expr) (t : TT) : Prop :=
 ∀ (pins : List (Addr × Obj)) (s : Shared) (σ : St) (H : Hp) (Q : Bool → Hp → Prop), Inv X pins σ H s → t σ H Q → wpAny (model X.prog X.w) X.A (isTrue e X.env (eval e X.env)) (TP X pins σ Q) X.xe s
def PW (X : Cx) (e : Expr) (t : TT) : Prop :=
 ∀ (whole : Sem Value) (pins : List (Addr × Obj)) (s : Shared) (σ : St) (H : Hp) (Q : Bool → Hp → Prop), Inv X pins σ H s → t σ H Q → wpAny (model X.prog X.w) X.A (isTrue e X.env whole) (TP X pins σ Q) X.xe s
theorem PW.pt {X : Cx} {e : Expr} {t : TT} (h : PW X e t) : PT X e t := h _
def PA (X : Cx) (es : List Expr) (t : TA) : Prop :=
 ∀ (pos : Pos) (pins : List (Addr × Obj)) (s : Shared) (σ : St) (H : Hp) (Q : List V → Hp → Prop), Inv X pins σ H s → t σ H Q → wpAny (model X.prog X.w) X.A (spliced (backTo pos (starEach es X.env))) (AP X pins σ Q) X.xe s
def PS (X : Cx) (st : Stmt) (t : TS) : Prop :=
 ∀ (pins : List (Addr × Obj)) (s : Shared) (σ : St) (H : Hp) (D : Ends), Inv X pins σ H s → t D σ H → wpAny (model X.prog X.w) X.A (exec st X.env) (SP X pins D) X.xe s
def PSs (X : Cx) (st : List Stmt) (t : TS) : Prop :=
 ∀ (pins : List (Addr × Obj)) (s : Shared) (σ : St) (H : Hp) (D : Ends), Inv X pins σ H s → t D σ H → wpAny (model X.prog X.w) X.A (execs st X.env) (SP X pins D) X.xe s
theorem thn {α : Type} {t : Sem α} {Q Q' : α → Shared → Prop} {M : Model} {A : Around} {E : Value → Shared → Prop} {s : Shared} (h : wpAny M A t Q E s) (hQ : ∀ a s, Q a s → Q' a s) : wpAny M A t Q' E s := wpAny_mono h hQ fun _ _ x => x
section
variable {X : Cx}
def tVar (i : Nat) : TE := fun σ H Q => ∃ v, σ[i]? = some (some v) ∧ Q v H
def tC (v : V) : TE := fun _ H Q => Q v H
theorem zkr {i : Nat} {x : Str} {pos : Pos} (hN : X.N[i]? = some x) (hv : Vis X.env.scope x) (hd : (x == ("__debug__" : Str)) = false := by decide) (hcd : (x == ("__classdict__" : Str)) = false := by decide) : PE X (.Name x pos) (tVar i) := by
 intro pins s σ H Q I h
 obtain ⟨v, e, h⟩ := h
 obtain ⟨m, hn, hl⟩ := I.loc
 obtain ⟨u, r, l⟩ := hl i x v hN e hv
 have fin : EP X pins σ Q u s := ⟨v, H, I, r, h⟩
 rcases l with ⟨hk, hm⟩ | ⟨hk, c, hc, hcell⟩
 · exact wpAny_Name (wpAny_loadName_local I.ok.kind hk hn hm fin) hd
 · rcases hk with hk | hk
   · exact wpAny_Name (wpAny_loadName_cell I.ok.kind hk hc hcell fin) hd
   · exact wpAny_Name (wpAny_loadName_free I.ok.kind hk hc hcell fin hcd) hd
theorem zae {i j pos} : PE X (.Constant (.int i) j pos) (tC (.int i)) := fun _ _ _ H _ I h => wpAny_Constant_int ⟨.int i, H, I.tok _, ⟨_, rfl⟩, h⟩
theorem zb3 {b j pos} : PE X (.Constant (.bool b) j pos) (tC (.bl b)) := fun _ _ _ H _ I h => Constant_bool ⟨.bl b, H, I, rfl, h⟩
theorem zeN {j pos} : PE X (.Constant .none j pos) (tC .non) := fun _ _ _ H _ I h => Constant_none ⟨.non, H, I, rfl, h⟩
theorem zeL {x j pos} : PE X (.Constant (.str x) j pos) (tC (.str x)) := fun _ _ _ H _ I h => Calls.Constant_str ⟨.str x, H, I.tok _, ⟨_, rfl⟩, h⟩
def Gl (X : Cx) (x : Str) : Prop := X.env.kindOf x = some .globalImplicit
theorem zhH {E : Value → Shared → Prop} {pins : List (Addr × Obj)} {s : Shared} {σ : St} {H : Hp} {x : Str} {u : Value} {pos : Pos} {Q : Value → Shared → Prop} (I : Inv X pins σ H s) (hg : Gl X x) (hm : X.mg x = some u) (h : Q u s)
 (hd : (x == ("__debug__" : Str)) = false := by decide) : wpAny (model X.prog X.w) X.A (eval (.Name x pos) X.env) Q E s :=
 Calls.Name_function_global I.ok.kind hg (Calls.loadGlobal_global (by rw [I.ok.glob]; exact I.mod.glob.keeps I.bk) hm h) hd
theorem zdS {E : Value → Shared → Prop} {pins : List (Addr × Obj)} {s : Shared} {σ : St} {H : Hp} {x : Str} {u : Value} {pos : Pos} {Q : Value → Shared → Prop} (I : Inv X pins σ H s) (hg : Gl X x) (hm : X.mg x = none) (hv : bootBuiltins x = some u) (h : Q u s)
 (hn : x ≠ "__name__" := by decide) (hd : (x == ("__debug__" : Str)) = false := by decide) : wpAny (model X.prog X.w) X.A (eval (.Name x pos) X.env) Q E s := by
 obtain ⟨mb, h1, h2⟩ := I.mod.blt
 exact Calls.Name_function_global I.ok.kind hg (Calls.loadGlobal_builtin (by rw [I.ok.glob]; exact I.mod.glob.keeps I.bk) hm (by rw [I.ok.blt]; exact h1.keeps I.bk) ((h2 x hn).trans hv) h) hd
theorem zhq {x : Str} {v : V} {u : Value} {pos : Pos} (hg : Gl X x) (hm : X.mg x = some u) (r : RelV v u) (hd : (x == ("__debug__" : Str)) = false := by decide) : PE X (.Name x pos) (tC v) :=
 fun _ _ _ H _ I h => zhH I hg hm ⟨v, H, I, r, h⟩ hd
theorem zaL {x : Str} {v : V} {u : Value} {pos : Pos} (hg : Gl X x) (hm : X.mg x = none) (hv : bootBuiltins x = some u) (r : RelV v u) (hn : x ≠ "__name__" := by decide) (hd : (x == ("__debug__" : Str)) = false := by decide) : PE X (.Name x pos) (tC v) :=
 fun _ _ _ H _ I h => zdS I hg hm hv ⟨v, H, I, r, h⟩ hn hd
variable {a b : Expr} {ta tb : TE} {pos : Pos}
def PC (X : Cx) (op : CmpOp) (a b : Expr) (t : TE) : Prop :=
 ∀ (pins : List (Addr × Obj)) (s : Shared) (σ : St) (H : Hp) (Q : VK), Inv X pins σ H s → t σ H Q →
  wpAny (model X.prog X.w) X.A (eval a X.env) (fun v s₁ => wpAny (model X.prog X.w) X.A (eval b X.env) (fun u s₂ => wpAny (model X.prog X.w) X.A (compareOp op v u) (EP X pins σ Q) X.xe s₂) X.xe s₁) X.xe s
theorem zgj (b : Expr) {op : CmpOp} (h : op ≠ .In) (h2 : op ≠ .NotIn) : behindInMarks op b = false := by
 have e1 : (op == CmpOp.In) = false := by cases op <;> first | rfl | exact absurd rfl h
 have e2 : (op == CmpOp.NotIn) = false := by cases op <;> first | rfl | exact absurd rfl h2
 cases b <;> simp [behindInMarks, e1, e2]
def tIsN (ta : TE) : TE := fun σ H Q => ta σ H fun x H1 => Q (.bl (decide (x = .non))) H1
def zk3 (ta : TE) : TE := fun σ H Q => ta σ H fun x H1 => Q (.bl (!decide (x = .non))) H1
theorem RelV.none_iff {x : V} {v : Value} (r : RelV x v) : (v == Value.none) = decide (x = .non) := by
 cases x with
 | non => cases r; rfl
 | bl _ => cases r; rfl
 | int _ => obtain ⟨t, rfl⟩ := r; rfl
 | str _ => obtain ⟨t, rfl⟩ := r; rfl
 | byt _ => obtain ⟨t, rfl⟩ := r; rfl
 | flt _ => obtain ⟨t, rfl⟩ := r; rfl
 | ref _ => cases r; rfl
 | ty _ => cases r; rfl
theorem zbi {j pos'} (ha : PE X a ta) : PC X .Is a (.Constant .none j pos') (tIsN ta) := by
 intro pins s σ H Q I h
 refine thn (ha pins s σ H _ I h) fun v s1 ⟨x, H1, I1, r1, q1⟩ => ?_
 exact Constant_none (is_none_gen ⟨.bl _, H1, I1, by rw [r1.none_iff]; rfl, q1⟩)
theorem zdx {j pos'} (ha : PE X a ta) : PC X .IsNot a (.Constant .none j pos') (zk3 ta) := by
 intro pins s σ H Q I h
 refine thn (ha pins s σ H _ I h) fun v s1 ⟨x, H1, I1, r1, q1⟩ => ?_
 exact Constant_none (isnot_none_gen ⟨.bl _, H1, I1, by rw [r1.none_iff]; rfl, q1⟩)
def tB (t : TE) : TT := fun σ H Q => t σ H fun x H1 => ∃ c, x = .bl c ∧ Q c H1
theorem zb9 {op : CmpOp} {t : TE} (h : PC X op a b t) (h1 : behindInMarks op b = false := by first | exact zgj _ (by decide) (by decide) | rfl) : PE X (.Compare a [op] [b] pos) t := fun pins s σ H Q I hw => wpAny_Compare1 (h pins s σ H Q I hw) h1
theorem zbZ {op : CmpOp} {t : TE} (h : PC X op a b t) (h1 : behindInMarks op b = false := by first | exact zgj _ (by decide) (by decide) | rfl) : PT X (.Compare a [op] [b] pos) (tB t) := by
 intro pins s σ H Q I hw
 refine wpAny_isTrue_Compare1 (thn (h pins s σ H _ I hw) fun v s1 h1 => thn h1 fun u s2 h2 => thn h2 fun c s3 ⟨x, H1, I1, r1, q1⟩ => ?_) h1
 obtain ⟨d, rfl, q⟩ := q1
 cases r1
 exact wpAny_truthy_bool ⟨H1, I1, q⟩
theorem zba {e : Expr} {t : TE} (h : PE X e t) (he : ∀ whole, isTrue e X.env whole = (do let v ← whole; standAt e.pos; holding [v] (truthy v)) := by intro _; rfl) : PT X e (tB t) := by
 intro pins s σ H Q I hw
 refine isTrue_plain (thn (h pins s σ H _ I hw) fun v s1 ⟨x, H1, I1, r1, q1⟩ => ?_) (he _)
 obtain ⟨d, rfl, q⟩ := q1
 cases r1
 exact wpAny_truthy_bool ⟨H1, I1, q⟩
variable {tA tB' : TT} {rest : List Expr}
def tAnd (t u : TT) : TT := fun σ H Q => t σ H fun c H1 => if c = true then u σ H1 Q else Q false H1
def tOr (t u : TT) : TT := fun σ H Q => t σ H fun c H1 => if c = true then Q true H1 else u σ H1 Q
def tNot (t : TT) : TT := fun σ H Q => t σ H fun c H1 => Q (!c) H1
theorem zdu (ha : PT X a tA) : PW X (.BoolOp .And [a] pos) tA := by
 intro wh pins s σ H Q I h
 refine isTrue_and (thn (ha pins s σ H Q I h) fun c s1 e => ?_)
 cases c with
 | true => exact isTrue_and_nil e
 | false => exact e
theorem zbY (ha : PT X a tA) : PW X (.BoolOp .Or [a] pos) tA := by
 intro wh pins s σ H Q I h
 refine isTrue_or (thn (ha pins s σ H Q I h) fun c s1 e => ?_)
 cases c with
 | false => exact isTrue_or_nil e
 | true => exact e
theorem zeK (ha : PT X a tA) (hb : PW X (.BoolOp .And (b :: rest) pos) tB') : PW X (.BoolOp .And (a :: b :: rest) pos) (tAnd tA tB') := by
 intro wh pins s σ H Q I h
 refine isTrue_and (thn (ha pins s σ H _ I h) fun c s1 ⟨H1, I1, q1⟩ => ?_)
 cases c with
 | true => exact hb wh pins s1 σ H1 Q I1 q1
 | false => exact ⟨H1, I1, q1⟩
theorem zdf (ha : PT X a tA) (hb : PW X (.BoolOp .Or (b :: rest) pos) tB') : PW X (.BoolOp .Or (a :: b :: rest) pos) (tOr tA tB') := by
 intro wh pins s σ H Q I h
 refine isTrue_or (thn (ha pins s σ H _ I h) fun c s1 ⟨H1, I1, q1⟩ => ?_)
 cases c with
 | true => exact ⟨H1, I1, q1⟩
 | false => exact hb wh pins s1 σ H1 Q I1 q1
theorem zby (ha : PT X a tA) : PT X (.UnaryOp .Not a pos) (tNot tA) := by
 intro pins s σ H Q I h
 exact isTrue_not (ha pins s σ H (fun c H1 => Q (!c) H1) I h)
def zk6 (ta tb : TE) : TE := fun σ H Q => ta σ H fun x H1 => ∃ c, x = .bl c ∧ if c = true then tb σ H1 Q else Q (.bl false) H1
def tOrV (ta tb : TE) : TE := fun σ H Q => ta σ H fun x H1 => ∃ c, x = .bl c ∧ if c = true then Q (.bl true) H1 else tb σ H1 Q
def zk2 (ta : TE) : TE := fun σ H Q => ta σ H fun x H1 => ∃ c, x = .bl c ∧ Q (.bl (!c)) H1
theorem zbG {op} {t : TE} (h : PE X a t) : PE X (.BoolOp op [a] pos) t := fun pins s σ H Q I hw => BoolOp_one (h pins s σ H Q I hw)
theorem zcv (ha : PE X a ta) (hb : PE X (.BoolOp .And (b :: rest) pos) tb) : PE X (.BoolOp .And (a :: b :: rest) pos) (zk6 ta tb) := by
 intro pins s σ H Q I h
 refine BoolOp_and (thn (ha pins s σ H _ I h) fun v s1 ⟨x, H1, I1, r1, q1⟩ => ?_)
 obtain ⟨c, rfl, q1⟩ := q1
 cases r1
 refine wpAny_truthy_bool ?_
 cases c with
 | true => exact hb pins s1 σ H1 Q I1 q1
 | false => exact ⟨.bl false, H1, I1, rfl, q1⟩
theorem zhp (ha : PE X a ta) (hb : PE X (.BoolOp .Or (b :: rest) pos) tb) : PE X (.BoolOp .Or (a :: b :: rest) pos) (tOrV ta tb) := by
 intro pins s σ H Q I h
 refine BoolOp_or (thn (ha pins s σ H _ I h) fun v s1 ⟨x, H1, I1, r1, q1⟩ => ?_)
 obtain ⟨c, rfl, q1⟩ := q1
 cases r1
 refine wpAny_truthy_bool ?_
 cases c with
 | false => exact hb pins s1 σ H1 Q I1 q1
 | true => exact ⟨.bl true, H1, I1, rfl, q1⟩
theorem zks (ha : PE X a ta) : PE X (.UnaryOp .Not a pos) (zk2 ta) := by
 intro pins s σ H Q I h
 refine UnaryOp_ (thn (ha pins s σ H _ I h) fun v s1 ⟨x, H1, I1, r1, q1⟩ => ?_)
 obtain ⟨c, rfl, q1⟩ := q1
 cases r1
 exact not_of (wpAny_truthy_bool ⟨.bl (!c), H1, I1, rfl, q1⟩)
def tIf (t : TT) (ta tb : TE) : TE := fun σ H Q => t σ H fun c H1 => if c = true then ta σ H1 Q else tb σ H1 Q
theorem zcq {c : Expr} (hc : PT X c tA) (ha : PE X a ta) (hb : PE X b tb) : PE X (.IfExp c a b pos) (tIf tA ta tb) := by
 intro pins s σ H Q I h
 refine wpAny_IfExp (thn (hc pins s σ H _ I h) fun d s1 ⟨H1, I1, q1⟩ => ?_)
 cases d with
 | true => exact ha pins s1 σ H1 Q I1 q1
 | false => exact hb pins s1 σ H1 Q I1 q1
end
def SqL (K : PySem.W.Frag) (H : Hp) (a : Addr) (xs : List V) : Prop :=
 Rd H a (.lst xs) ∨
  ∃ (o : Obj) (its : Array Value) (n : Nat), K.lookup a = some o ∧ o.cls = .type "list" ∧ o.dict = none ∧ o.data = .seq its n ∧ its.size ≤ sizeLine ∧ Vals xs its.toList
def SqT (K : PySem.W.Frag) (H : Hp) (a : Addr) (xs : List V) : Prop :=
 Rd H a (.tup xs) ∨
  ∃ (o : Obj) (its : Array Value) (n : Nat), K.lookup a = some o ∧ o.cls = .type "tuple" ∧ o.data = .seq its n ∧ its.size ≤ sizeLine ∧ Vals xs its.toList
def absV : Value → Option V
 | .none => some .non
 | .bool b => some (.bl b)
 | .int i _ => some (.int i)
 | .str x _ => some (.str x)
 | .bytes b _ => some (.byt b)
 | .float b _ => some (.flt b)
 | .ref a => some (.ref a)
 | .type n => some (.ty n)
 | _ => none
theorem RelV.abs {x : V} {u : Value} (r : RelV x u) : absV u = some x := by
 cases x with
 | non => cases r; rfl
 | bl _ => cases r; rfl
 | int _ => obtain ⟨t, rfl⟩ := r; rfl
 | str _ => obtain ⟨t, rfl⟩ := r; rfl
 | byt _ => obtain ⟨t, rfl⟩ := r; rfl
 | flt _ => obtain ⟨t, rfl⟩ := r; rfl
 | ref _ => cases r; rfl
 | ty _ => cases r; rfl
theorem RelV.inj {x y : V} {u : Value} (r : RelV x u) (q : RelV y u) : x = y := Option.some.inj (r.abs.symm.trans q.abs)
theorem Vals.inj : ∀ {xs ys : List V} {us : List Value}, Vals xs us → Vals ys us → xs = ys
 | _, _, _, .nil, .nil => rfl
 | _, _, _, .cons r t, .cons r' t' => by rw [r.inj r', Vals.inj t t']
section
variable {X : Cx} {pins : List (Addr × Obj)} {σ : St} {H : Hp} {s : Shared} {a : Addr} {xs ys : List V}
theorem SqL.of {K : PySem.W.Frag} (h : H a = some (.lst xs)) : SqL K H a xs := .inl (.inl h)
theorem SqT.of {K : PySem.W.Frag} (h : H a = some (.tup xs)) : SqT K H a xs := .inl (.inl h)
theorem Inv.list (I : Inv X pins σ H s) (h : SqL X.K H a xs) : ∃ its : List Value, Vals xs its ∧ PlainL s.heap a its.toArray ∧ xs.length ≤ sizeLine := by
 rcases h with h | ⟨o, its, n, hk, hc, hd, hs, hz, r⟩
 · obtain ⟨z, its, n, r, e⟩ := h.ok I.hok
   exact ⟨its, r, ⟨_, n, e, rfl, rfl, rfl⟩, z⟩
 · refine ⟨its.toList, r, ⟨o, n, I.kIn a o hk, hc, hd, by simpa using hs⟩, ?_⟩
   have e := r.length
   simp only [Array.length_toList] at e
   omega
theorem Inv.tuple (I : Inv X pins σ H s) (h : SqT X.K H a xs) : ∃ its : List Value, Vals xs its ∧ IsTup s.heap a its.toArray ∧ xs.length ≤ sizeLine := by
 rcases h with h | ⟨o, its, n, hk, hc, hs, hz, r⟩
 · obtain ⟨z, its, r, p⟩ := h.ok I.hok
   exact ⟨its, r, p.tup, z⟩
 · refine ⟨its.toList, r, ⟨o, I.kIn a o hk, hc, n, by simpa using hs⟩, ?_⟩
   have e := r.length
   simp only [Array.length_toList] at e
   omega
theorem Inv.list_inj (I : Inv X pins σ H s) (h : SqL X.K H a xs) (h' : SqL X.K H a ys) : xs = ys := by
 obtain ⟨its, r, ⟨o, n, e, _, _, d⟩, _⟩ := I.list h
 obtain ⟨its', r', ⟨o', n', e', _, _, d'⟩, _⟩ := I.list h'
 rw [e] at e'; cases e'
 rw [d] at d'
 injection d' with d1 _
 have : its = its' := by simpa using congrArg Array.toList d1
 subst this
 exact r.inj r'
theorem Inv.tuple_inj (I : Inv X pins σ H s) (h : SqT X.K H a xs) (h' : SqT X.K H a ys) : xs = ys := by
 obtain ⟨its, r, ⟨o, e, _, n, d⟩, _⟩ := I.tuple h
 obtain ⟨its', r', ⟨o', e', _, n', d'⟩, _⟩ := I.tuple h'
 rw [e] at e'; cases e'
 rw [d] at d'
 injection d' with d1 _
 have : its = its' := by simpa using congrArg Array.toList d1
 subst this
 exact r.inj r'
end
abbrev Cx.wish (X : Cx) (E : Value → Shared → Prop) : Cx := { X with xe := E }
abbrev Cx.nox (X : Cx) : Cx := X.wish fun _ _ => False
theorem Cx.Ok.wish {X : Cx} (ok : X.Ok) (E : Value → Shared → Prop) : (X.wish E).Ok :=
 ⟨ok.mod, ok.kind, ok.glob, ok.blt, ok.above, ok.inj, ok.has, ok.cab, ok.hd, ok.frames, ok.stk, ok.exf, ok.bs, ok.bsz, ok.noex, ok.exfs, ok.funs, ok.frf⟩
theorem Cx.Ok.unwish {X : Cx} {E : Value → Shared → Prop} (ok : (X.wish E).Ok) : X.Ok :=
 ⟨ok.mod, ok.kind, ok.glob, ok.blt, ok.above, ok.inj, ok.has, ok.cab, ok.hd, ok.frames, ok.stk, ok.exf, ok.bs, ok.bsz, ok.noex, ok.exfs, ok.funs, ok.frf⟩
section
variable {X : Cx} {pins : List (Addr × Obj)} {σ : St} {H : Hp} {s : Shared} {E : Value → Shared → Prop}
theorem Inv.wish (I : Inv X pins σ H s) (E : Value → Shared → Prop) : Inv (X.wish E) pins σ H s := ⟨I.ok.wish E, I.os, I.bare, I.base, I.loc, I.cell, I.free, I.freeC, I.pin, I.hok, I.len⟩
theorem Inv.unwish (I : Inv (X.wish E) pins σ H s) : Inv X pins σ H s := ⟨I.ok.unwish, I.os, I.bare, I.base, I.loc, I.cell, I.free, I.freeC, I.pin, I.hok, I.len⟩
theorem SP.unwish {D : Ends} {f : Flow} {s' : Shared} (h : SP (X.wish E) pins D f s') : SP X pins D f s' := by
 cases f with
 | next => obtain ⟨σ', H', I, q⟩ := h; exact ⟨σ', H', I.unwish, q⟩
 | brk => obtain ⟨σ', H', I, q⟩ := h; exact ⟨σ', H', I.unwish, q⟩
 | cont => obtain ⟨σ', H', I, q⟩ := h; exact ⟨σ', H', I.unwish, q⟩
 | ret u => obtain ⟨v, σ', H', I, r, q⟩ := h; exact ⟨v, σ', H', I.unwish, r, q⟩
theorem PSs.nox {st : List Stmt} {t : TS} (h : PSs X.nox st t) : PSs X st t := fun pins s σ H D I hw =>
 wpAny_mono (h pins s σ H D (I.wish _) hw) (fun _ _ q => q.unwish) fun _ _ z => False.elim z
end
section
variable {X : Cx} {st : Stmt} {rest : List Stmt} {t u : TS} {e : Expr} {te : TE} {pos : Pos}
def zkc : TS := fun D σ H => D.nx σ H
def tSeq (t u : TS) : TS := fun D σ H => t { D with nx := u D } σ H
theorem zas : PSs X [] zkc := fun _ _ σ H _ I h => wpAny_execs_nil ⟨σ, H, I, h⟩
theorem zab (h1 : PS X st t) (h2 : PSs X rest u) : PSs X (st :: rest) (tSeq t u) := by
 intro pins s σ H D I h
 refine wpAny_execs_cons (thn (h1 pins s σ H { D with nx := u D } I h) fun f s1 q => ?_)
 cases f with
 | next =>
  obtain ⟨σ', H', I', q⟩ := q
  exact h2 pins s1 σ' H' D I' q
 | ret v => exact q
 | brk => exact q
 | cont => exact q
theorem zah (h1 : PS X st t) : PSs X [st] t := by
 intro pins s σ H D I h
 refine wpAny_execs_cons (thn (h1 pins s σ H D I h) fun f s1 q => ?_)
 cases f with
 | next => exact wpAny_execs_nil q
 | ret v => exact q
 | brk => exact q
 | cont => exact q
theorem Inv.quiet {pins : List (Addr × Obj)} {σ : St} {H : Hp} {s : Shared} (I : Inv X pins σ H s) : interactive X.env = false := by simp [interactive, I.ok.kind]
def zk4 (te : TE) : TS := fun D σ H => te σ H fun _ H1 => D.nx σ H1
theorem zbQ (he : PE X e te) (hs : swapsWith e none pos.line X.env = pure false := by rfl) : PS X (.Expr e pos) (zk4 te) := by
 intro pins s σ H D I h
 exact wpAny_Expr_any (thn (he pins s σ H _ I h) fun v s1 ⟨x, H1, I1, r1, q1⟩ => ⟨σ, H1, I1, q1⟩) I.quiet hs
def tRet (te : TE) : TS := fun D σ H => te σ H D.rt
theorem zap (he : PE X e te) : PS X (.Return (some e) pos) (tRet te) := by
 intro pins s σ H D I h
 exact wpAny_Return_some (thn (he pins s σ H _ I h) fun v s1 ⟨x, H1, I1, r1, q1⟩ => ⟨x, σ, H1, I1, r1, q1⟩)
def tIfS (c : TT) (t u : TS) : TS := fun D σ H => c σ H fun b H1 => if b = true then t D σ H1 else u D σ H1
theorem zaW {c : Expr} {a b : List Stmt} {tc : TT} (hc : PT X c tc) (ha : PSs X a t) (hb : PSs X b u) : PS X (.If c a b pos) (tIfS tc t u) := by
 intro pins s σ H D I h
 refine wpAny_If (thn (hc pins s σ H _ I h) fun d s1 ⟨H1, I1, q1⟩ => ?_)
 cases d with
 | true => exact ha pins s1 σ H1 D I1 q1
 | false => exact hb pins s1 σ H1 D I1 q1
def zkd : TS := fun _ _ _ => False
theorem ziC : PS X st zkd := fun _ _ _ _ _ _ h => h.elim
end
abbrev TG := V → St → Hp → (St → Hp → Prop) → Prop
abbrev TGs := List V → St → Hp → (St → Hp → Prop) → Prop
def PG (X : Cx) (target : Expr) (t : TG) : Prop :=
 ∀ (pins : List (Addr × Obj)) (s : Shared) (σ : St) (H : Hp) (v : V) (u : Value) (Q : St → Hp → Prop), Inv X pins σ H s → RelV v u → t v σ H Q →
  wpAny (model X.prog X.w) X.A (assign target X.env u) (fun _ s' => ∃ σ' H', Inv X pins σ' H' s' ∧ Q σ' H') X.xe s
def PGs (X : Cx) (ts : List Expr) (t : TGs) : Prop :=
 ∀ (pins : List (Addr × Obj)) (s : Shared) (σ : St) (H : Hp) (vs : List V) (us : List Value) (Q : St → Hp → Prop), Inv X pins σ H s → Vals vs us → t vs σ H Q →
  wpAny (model X.prog X.w) X.A (assignInOrder ((assignEach ts X.env).map (·.2)) us) (fun _ s' => ∃ σ' H', Inv X pins σ' H' s' ∧ Q σ' H') X.xe s
abbrev TSet := V → V → V → Hp → (Hp → Prop) → Prop
def PSet (X : Cx) (t : TSet) : Prop :=
 ∀ (pins : List (Addr × Obj)) (s : Shared) (σ : St) (H : Hp) (o i v : V) (ov iv u : Value) (Q : Hp → Prop), Inv X pins σ H s → RelV o ov → RelV i iv → RelV v u → t o i v H Q →
  wpAny (model X.prog X.w) X.A (setItem ov iv u) (fun _ s' => ∃ H', Inv X pins σ H' s' ∧ Q H') X.xe s
section
variable {X : Cx} {pos : Pos}
def zfT (i : Nat) : TG := fun v σ H Q => Q (σ.set i (some v)) H
theorem zaj {i : Nat} {x : Str} (hN : X.N.Nodup) (hi : X.N[i]? = some x) (hx : Loc X.env.scope x) (hf : X.fn x = true ∨ X.env.scope.names.lookup x = some .local := by first | exact .inl rfl | exact .inr rfl | assumption) : PG X (.Name x pos) (zfT i) := by
 intro pins s σ H v u Q I r h
 exact wpAny_assign_Name (zf9 I hN hi hx r (fun s' I' => ⟨_, H, I', h⟩) hf)
def gNil : TGs := fun vs σ H Q => vs = [] ∧ Q σ H
def zlf (t : TG) (u : TGs) : TGs := fun vs σ H Q => ∃ v r, vs = v :: r ∧ t v σ H fun σ' H' => u r σ' H' Q
theorem zbm : PGs X [] gNil := by
 intro pins s σ H vs us Q I r h
 obtain ⟨e, h⟩ := h
 subst e
 cases r
 exact assignInOrder_nil ⟨σ, H, I, h⟩
theorem zaq {e : Expr} {es : List Expr} {t : TG} {u : TGs} (h1 : PG X e t) (h2 : PGs X es u)
 (hs : (assignEach (e :: es) X.env).map (·.2) = assign e X.env :: (assignEach es X.env).map (·.2) := by rfl) : PGs X (e :: es) (zlf t u) := by
 intro pins s σ H vs us Q I r h
 obtain ⟨v, vr, e1, h⟩ := h
 subst e1
 cases r with
 | cons r rr =>
  rw [hs]
  refine assignInOrder_cons (thn (h1 pins s σ H _ _ _ I r h) fun _ s1 ⟨σ1, H1, I1, q1⟩ => ?_)
  exact h2 pins s1 σ1 H1 _ _ Q I1 rr q1
def gTup (K : PySem.W.Frag) (n : Nat) (t : TGs) : TG := fun v σ H Q => ∃ a xs, v = .ref a ∧ SqT K H a xs ∧ xs.length = n ∧ t xs σ H Q
theorem zcu {es : List Expr} {k : Nat} {t : TGs} {n : Nat} (hc : X.calm = true) (h : PGs X es t)
 (hn : (assignEach es X.env).length = n := by rfl) (hst : (assignEach es X.env).findIdx? (·.1) = none := by rfl) : PG X (.Tuple es k pos) (gTup X.K n t) := by
 intro pins s σ H v u Q I r hw
 obtain ⟨a, xs, e1, hq, hl, hw⟩ := hw
 subst e1
 cases r
 obtain ⟨its, rv, ht, hz⟩ := I.tuple hq
 refine assign_Tuple_tuple (I.ok.hd hc) ht (by simp [hn, ← hl, rv.length]) hst fun h' hx => ?_
 have I1 : Inv X pins σ H { s with heap := h' } := I.kept (t' := s.toks) fun b o e => hx b o (Nat.ne_of_lt (Heap.lt_size e)) e
 exact h pins _ σ H xs _ Q I1 (by simpa using rv) hw
def gSub (to ti : TE) (t : TSet) : TG := fun v σ H Q => to σ H fun o H1 => ti σ H1 fun i H2 => t o i v H2 fun H3 => Q σ H3
theorem zho {o i : Expr} {to ti : TE} {t : TSet} (ho : PE X o to) (hi : PE X i ti) (hs : PSet X t)
 (ha : ∀ v, assign (.Subscript o i pos) X.env v = (do
  let ov ← holding [v] (eval o X.env)
  let iv ← holding [v, ov] (eval i X.env)
  standAt pos
  holding [v, ov, iv] (setItem ov iv v)
  release [v, ov, iv] []) := by intro _; rfl) : PG X (.Subscript o i pos) (gSub to ti t) := by
 intro pins s σ H v u Q I r h
 rw [ha]
 refine wpAny_bind (wpAny_holding (thn (ho pins s σ H _ I h) fun ov s1 ⟨x, H1, I1, r1, q1⟩ => ?_))
 refine wpAny_bind (wpAny_holding (thn (hi pins s1 σ H1 _ I1 q1) fun iv s2 ⟨y, H2, I2, r2, q2⟩ => ?_))
 refine wpAny_bind (wpAny_standAt (wpAny_bind (wpAny_holding (thn (hs pins s2 σ H2 x y v ov iv u _ I2 r1 r2 r q2) fun _ s3 ⟨H3, I3, q3⟩ => ?_))))
 exact wpAny_release ⟨σ, H3, I3, q3⟩
def tAsg (te : TE) (g : TG) : TS := fun D σ H => te σ H fun x H1 => g x σ H1 D.nx
theorem zc6 {tg e : Expr} {te : TE} {g : TG} (he : PE X e te) (hg : PG X tg g) (hs : swapsWithSole [tg] e pos.line X.env = pure false := by rfl) (hw : swappedStores [tg] e X.env = pure none := by rfl)
 (h1 : (assignEach [tg] X.env).map (·.2) = [assign tg X.env] := by rfl) : PS X (.Assign [tg] e pos) (tAsg te g) := by
 intro pins s σ H D I h
 refine wpAny_Assign_stores (thn (he pins s σ H _ I h) fun v s1 ⟨x, H1, I1, r1, q1⟩ => ?_) hs hw
 rw [h1]
 exact thn (hg pins s1 σ H1 x v _ I1 r1 q1) fun _ s2 q => q
theorem zao {i : Nat} {x : Str} {e : Expr} {te : TE} {pos' : Pos} (hN : X.N.Nodup) (hi : X.N[i]? = some x) (hx : Loc X.env.scope x) (he : PE X e te) (hs : swapsWith e (some (.Name x pos')) pos.line X.env = pure false := by rfl) (hf : X.fn x = true ∨ X.env.scope.names.lookup x = some .local := by first | exact .inl rfl | exact .inr rfl | assumption) :
 PS X (.Assign [.Name x pos'] e pos) (tAsg te (zfT i)) := by
 intro pins s σ H D I h
 refine wpAny_Assign_Name (thn (he pins s σ H _ I h) fun v s1 ⟨y, H1, I1, r1, q1⟩ => ?_) hs
 exact zf9 I1 hN hi hx r1 (fun s2 I2 => ⟨_, H1, I2, q1⟩) hf
end
section
variable {X : Cx} {pos : Pos}
end
structure It where
 go : Nat → Hp → Prop
 yld : Nat → Hp → V → Hp → Prop
 stop : Nat → Hp → Prop
def FpOk (X : Cx) (pins : List (Addr × Obj)) (H : Hp) (b : Addr) : Prop :=
 H b = none ∧ b ≠ X.env.locals ∧ b ∉ X.fs ∧ (b ∈ X.ex ∨ X.s₀.heap.objs.size ≤ b) ∧ (∀ x c, X.env.cells.lookup x = some c → c ≠ b) ∧ ∀ p ∈ X.pn ++ pins, p.1 ≠ b
theorem Inv.fpOk {X : Cx} {pins : List (Addr × Obj)} {σ : St} {H H' : Hp} {s : Shared} {b : Addr} (I : Inv X pins σ H s) (hb : s.heap.objs.size ≤ b) (hn : H' b = none) : FpOk X pins H' b := by
 refine ⟨hn, Nat.ne_of_gt (Nat.lt_of_lt_of_le I.lt hb), I.nofs hb, .inr (Nat.le_trans I.sz hb), fun x c e z => ?_, fun p hp z => ?_⟩
 · obtain ⟨v, q⟩ := I.cell x c e
   exact absurd (Nat.lt_of_lt_of_le q.lt (by rw [z]; exact hb)) (Nat.lt_irrefl _)
 · exact absurd (Nat.lt_of_lt_of_le (Heap.lt_size (I.pin p hp).1) (by rw [z]; exact hb)) (Nat.lt_irrefl _)
structure Turn (P : Program) (w : World) (K : PySem.W.Frag) (tg : Expr) (J : It) (fp : List Addr) (it : Addr) (tn : Nat → Heap → Prop) : Prop where
 mem : it ∈ fp
 obj : ∀ i h, tn i h → ∀ b ∈ fp, ∃ o, h.get? b = some o ∧ ∀ v, o.data ≠ .cell v
 keep : ∀ i h h', tn i h → (∀ b ∈ fp, ∀ o, h.get? b = some o → h'.get? b = some o) → tn i h'
 item : ∀ (X : Cx), X.prog = P → X.w = w → X.K = K → X.calm = true → ∀ (i : Nat) (pins : List (Addr × Obj)) (s : Shared) (σ : St) (H : Hp) (E : Value → Shared → Prop), Inv X pins σ H s → (∀ b ∈ fp, FpOk X pins H b) → tn i s.heap → J.go i H →
  wpAny (model P w) X.A (pyNext (.ref it)) (fun r s1 => ∃ u, r = some u ∧
   wpAny (model P w) X.A (letOwnedTupleGo tg (.ref it) u) (fun _ s2 => ∃ x H', Inv X pins σ H' s2 ∧ RelV x u ∧ J.yld i H x H' ∧ tn (i + 1) s2.heap ∧ ∀ b ∈ fp, H' b = none) E s1) E s
 done : ∀ (X : Cx), X.prog = P → X.w = w → X.K = K → X.calm = true → ∀ (i : Nat) (pins : List (Addr × Obj)) (s : Shared) (σ : St) (H : Hp) (E : Value → Shared → Prop), Inv X pins σ H s → (∀ b ∈ fp, FpOk X pins H b) → tn i s.heap → J.stop i H →
  wpAny (model P w) X.A (pyNext (.ref it)) (fun r s1 => r = none ∧ Inv X pins σ H s1) E s
 self : ∀ (A : Around) (i : Nat) (s : Shared) (Q : Value → Shared → Prop) (E : Value → Shared → Prop), tn i s.heap → Q (.ref it) s → wpAny (model P w) A (pyIter (.ref it)) Q E s
abbrev TI := St → Hp → (It → Hp → Prop) → Prop
def PIE (X : Cx) (pins : List (Addr × Obj)) (σ : St) (tg : Expr) (R : It → Hp → Prop) (itv : Value) (s2 : Shared) : Prop :=
 ∃ (it : Addr) (fp : List Addr) (tn : Nat → Heap → Prop) (J : It) (H' : Hp), itv = .ref it ∧ Inv X pins σ H' s2 ∧ Turn X.prog X.w X.K tg J fp it tn ∧ tn 0 s2.heap ∧ (∀ b ∈ fp, FpOk X pins H' b) ∧ R J H'
def PI (X : Cx) (tg iter : Expr) (wi : TI) : Prop :=
 ∀ (pins : List (Addr × Obj)) (s : Shared) (σ : St) (H : Hp) (R : It → Hp → Prop), Inv X pins σ H s → wi σ H R →
  wpAny (model X.prog X.w) X.A (eval iter X.env) (fun v s1 => wpAny (model X.prog X.w) X.A (pyIter v) (PIE X pins σ tg R) X.xe s1) X.xe s
theorem zgN {M : Model} {A : Around} {E : Value → Shared → Prop} {s : Shared} {tg : Expr} {it : Addr} {u : Value} {o : Obj} {n : String} {vs : Array Value} {Q : Unit → Shared → Prop} (ho : s.heap.get? it = some o) (hc : o.cls = .type n) (hd : o.data = .fields vs)
 (hn : ["enumerate", "zip", "dict_itemiterator", "dict_reverseitemiterator", "odict_iterator", "itertools.zip_longest", "itertools.pairwise"].contains n = false) (hQ : Q () s) : wpAny M A (letOwnedTupleGo tg (.ref it) u) Q E s := by
 unfold letOwnedTupleGo
 cases tg <;> first
  | exact wpAny_pure hQ
  | (cases u <;> first
   | exact wpAny_pure hQ
   | (refine wpAny_bind (wpAny_load ho ?_)
      rw [hc, hd]
      show wpAny M A (if (["enumerate", "zip", "dict_itemiterator", "dict_reverseitemiterator", "odict_iterator", "itertools.zip_longest", "itertools.pairwise"].contains n && vs[0]? == some (rawInt _)) = true then _ else _) Q E s
      rw [if_neg (by intro h; rw [hn, Bool.false_and] at h; cases h)]
      exact wpAny_pure hQ))
def Itl (K : PySem.W.Frag) (a : Addr) : It :=
 ⟨fun i H => ∃ xs x, SqL K H a xs ∧ xs[i]? = some x, fun i H x H' => H' = H ∧ ∀ xs, SqL K H a xs → xs[i]? = some x, fun i H => ∃ xs, SqL K H a xs ∧ xs.length ≤ i⟩
def Itt (K : PySem.W.Frag) (a : Addr) : It :=
 ⟨fun i H => ∃ xs x, SqT K H a xs ∧ xs[i]? = some x, fun i H x H' => H' = H ∧ ∀ xs, SqT K H a xs → xs[i]? = some x, fun i H => ∃ xs, SqT K H a xs ∧ xs.length ≤ i⟩
def Itr (lo : Int) (n : Nat) : It := ⟨fun i _ => i < n, fun i H x H' => H' = H ∧ x = .int (lo + i), fun i _ => n ≤ i⟩
theorem zgT {P : Program} {w : World} {K : PySem.W.Frag} {tg : Expr} (a it : Addr) : Turn P w K tg (Itl K a) [it] it (fun i h => h.IsListIter it a i) where
 mem := by simp
 obj := fun i h st b hb => by
  have e : b = it := by simpa using hb
  subst e
  obtain ⟨o, e, c, d⟩ := st
  exact ⟨o, e, fun v z => by rw [d] at z; cases z⟩
 keep := fun i h h' st k => st.at fun o e => k it (by simp) o e
 item := by
  intro X hP hw hK hc i pins s σ H E I hf st hg
  subst hP hw hK
  obtain ⟨xs, x, hq, hx⟩ := hg
  obtain ⟨its, rv, p, hz⟩ := I.list hq
  obtain ⟨u, hu, ru⟩ := rv.get hx
  obtain ⟨f0, f1, f2, f3, f4, f5⟩ := hf it (by simp)
  refine wpAny_pyNext_list_item st p.isList (x := u) (by simpa using hu) fun h' st' sb => ?_
  have I1 : Inv X pins σ H { s with heap := h' } := I.turned (t' := s.toks) (fun b o hb e => (sb.2 b hb).trans e) f0 f1 f3 f4 f5
  obtain ⟨o, e, c, d⟩ := id st'
  exact ⟨u, rfl, zgN (s := { s with heap := h' }) e c d (by decide) ⟨x, H, I1, ru, ⟨rfl, fun ys hy => by rw [I.list_inj hy hq]; exact hx⟩, st', fun b hb => (hf b hb).1⟩⟩
 done := by
  intro X hP hw hK hc i pins s σ H E I hf st hg
  subst hP hw hK
  obtain ⟨xs, hq, hx⟩ := hg
  obtain ⟨its, rv, p, hz⟩ := I.list hq
  obtain ⟨f0, f1, f2, f3, f4, f5⟩ := hf it (by simp)
  have hl := rv.length
  exact wpAny_pyNext_list_end (I.ok.hd hc) st p.isList (by simp; omega) fun h' eb => ⟨rfl, I.turned (t' := s.toks) (fun b o hb e => eb b o hb e) f0 f1 f3 f4 f5⟩
 self := fun _ _ _ _ _ st h => wpAny_pyIter_listiter st h
theorem zgs {P : Program} {w : World} {K : PySem.W.Frag} {tg : Expr} (a it : Addr) : Turn P w K tg (Itt K a) [it] it (fun i h => h.IsTupleIter it a i) where
 mem := by simp
 obj := fun i h st b hb => by
  have e : b = it := by simpa using hb
  subst e
  obtain ⟨o, e, c, d⟩ := st
  exact ⟨o, e, fun v z => by rw [d] at z; cases z⟩
 keep := fun i h h' st k => st.at fun o e => k it (by simp) o e
 item := by
  intro X hP hw hK hc i pins s σ H E I hf st hg
  subst hP hw hK
  obtain ⟨xs, x, hq, hx⟩ := hg
  obtain ⟨its, rv, p, hz⟩ := I.tuple hq
  obtain ⟨u, hu, ru⟩ := rv.get hx
  obtain ⟨f0, f1, f2, f3, f4, f5⟩ := hf it (by simp)
  refine wpAny_pyNext_tuple_item st (show s.heap.IsTuple a its.toArray from p) (x := u) (by simpa using hu) fun h' st' sb => ?_
  have I1 : Inv X pins σ H { s with heap := h' } := I.turned (t' := s.toks) (fun b o hb e => (sb.2 b hb).trans e) f0 f1 f3 f4 f5
  obtain ⟨o, e, c, d⟩ := id st'
  exact ⟨u, rfl, zgN (s := { s with heap := h' }) e c d (by decide) ⟨x, H, I1, ru, ⟨rfl, fun ys hy => by rw [I.tuple_inj hy hq]; exact hx⟩, st', fun b hb => (hf b hb).1⟩⟩
 done := by
  intro X hP hw hK hc i pins s σ H E I hf st hg
  subst hP hw hK
  obtain ⟨xs, hq, hx⟩ := hg
  obtain ⟨its, rv, p, hz⟩ := I.tuple hq
  obtain ⟨f0, f1, f2, f3, f4, f5⟩ := hf it (by simp)
  have hl := rv.length
  exact wpAny_pyNext_tuple_end (I.ok.hd hc) st (show s.heap.IsTuple a its.toArray from p) (by simp; omega) fun h' eb => ⟨rfl, I.turned (t' := s.toks) (fun b o hb e => eb b o hb e) f0 f1 f3 f4 f5⟩
 self := fun _ _ _ _ _ st h => wpAny_pyIter_tupleiter st h
theorem zgt {P : Program} {w : World} {K : PySem.W.Frag} {tg : Expr} (it : Addr) (lo : Int) (n : Nat) : Turn P w K tg (Itr lo n) [it] it (fun i h => IsRangeIter h it (lo + (i : Nat) * 1) ((n : Int) - (i : Nat)) 1) where
 mem := by simp
 obj := fun i h st b hb => by
  have e : b = it := by simpa using hb
  subst e
  exact ⟨_, st, fun v z => by
   have z' : Data.fields _ = Data.cell v := z
   cases z'⟩
 keep := fun i h h' st k => k it (by simp) _ st
 item := by
  intro X hP hw hK hc i pins s σ H E I hf st hg
  subst hP hw hK
  obtain ⟨f0, f1, f2, f3, f4, f5⟩ := hf it (by simp)
  have W := Walks.range (prog := X.prog) (w := X.w) (I.ok.hd hc) it lo 1 n
  refine W.item i s _ _ hg st fun v h' tk hv st' kk => ?_
  obtain ⟨t, rfl⟩ := hv
  have I1 : Inv X pins σ H { s with heap := h', toks := tk } := I.turned (fun b o hb e => kk b o (by simpa using hb) e) f0 f1 f3 f4 f5
  refine ⟨_, rfl, zgN (s := { s with heap := h', toks := tk }) (n := "range_iterator") st' rfl rfl (by decide) ⟨.int (lo + i), H, I1, ⟨t, ?_⟩, ⟨rfl, rfl⟩, st', fun b hb => (hf b hb).1⟩⟩
  rw [Int.mul_one]
 done := by
  intro X hP hw hK hc i pins s σ H E I hf st hg
  subst hP hw hK
  obtain ⟨f0, f1, f2, f3, f4, f5⟩ := hf it (by simp)
  exact wpAny_pyNext_range_end (I.ok.hd hc) st (by have : n ≤ i := hg; omega) fun h' eb => ⟨rfl, I.turned (t' := s.toks) (fun b o hb e => eb b o hb e) f0 f1 f3 f4 f5⟩
 self := fun _ _ _ _ _ st h => wpAny_pyIter_rangeiter st h
section
variable {X : Cx} {tg : Expr}
def zkO (K : PySem.W.Frag) (tl : TE) : TI := fun σ H R => tl σ H fun x H1 => ∃ a, x = .ref a ∧ (∃ xs, SqL K H1 a xs) ∧ R (Itl K a) H1
def iTup (K : PySem.W.Frag) (tl : TE) : TI := fun σ H R => tl σ H fun x H1 => ∃ a, x = .ref a ∧ (∃ xs, SqT K H1 a xs) ∧ R (Itt K a) H1
theorem zbR {l : Expr} {tl : TE} (hl : PE X l tl) : PI X tg l (zkO X.K tl) := by
 intro pins s σ H R I h
 refine thn (hl pins s σ H _ I h) fun v s1 ⟨x, H1, I1, r1, q1⟩ => ?_
 obtain ⟨a, e, ⟨xs, hq⟩, q⟩ := q1
 subst e
 cases r1
 obtain ⟨its, rv, p, hz⟩ := I1.list hq
 refine wpAny_pyIter_list p.isList ?_
 refine ⟨s1.heap.objs.size, [s1.heap.objs.size], _, _, H1, rfl, I1.kept (t' := s1.toks) fun b o e => Heap.get?_push_of_some _ e, zgT a _, ⟨_, Heap.get?_push_size _ rfl, rfl, rfl⟩, fun b hb => ?_, q⟩
 have e : b = s1.heap.objs.size := by simpa using hb
 subst e
 exact I1.fpOk (Nat.le_refl _) (I1.hok.fresh (Nat.le_refl _))
theorem zdw {l : Expr} {tl : TE} (hl : PE X l tl) : PI X tg l (iTup X.K tl) := by
 intro pins s σ H R I h
 refine thn (hl pins s σ H _ I h) fun v s1 ⟨x, H1, I1, r1, q1⟩ => ?_
 obtain ⟨a, e, ⟨xs, hq⟩, q⟩ := q1
 subst e
 cases r1
 obtain ⟨its, rv, p, hz⟩ := I1.tuple hq
 refine wpAny_pyIter_tuple (show s1.heap.IsTuple a its.toArray from p) ?_
 refine ⟨s1.heap.objs.size, [s1.heap.objs.size], _, _, H1, rfl, I1.kept (t' := s1.toks) fun b o e => Heap.get?_push_of_some _ e, zgs a _, ⟨_, Heap.get?_push_size _ rfl, rfl, rfl⟩, fun b hb => ?_, q⟩
 have e : b = s1.heap.objs.size := by simpa using hb
 subst e
 exact I1.fpOk (Nat.le_refl _) (I1.hok.fresh (Nat.le_refl _))
theorem ziw {pins : List (Addr × Obj)} {σ : St} {H : Hp} {s : Shared} {R : It → Hp → Prop} {E : Value → Shared → Prop} {lo hi : Int} {t u v : Tok} {tk : Nat} (I : Inv X pins σ H s) (h1 : -(2 ^ 62) ≤ lo) (h2 : lo < 2 ^ 62) (h3 : -(2 ^ 62) ≤ hi) (h4 : hi < 2 ^ 62)
 (q : R (Itr lo (hi - lo).toNat) H) : wpAny (model X.prog X.w) X.A (pyIter (.ref s.heap.objs.size)) (PIE X pins σ tg R) E { s with heap := s.heap.push { cls := .type "range", data := .fields #[.int lo t, .int hi u, .int 1 v] }, toks := tk } := by
 refine wpAny_pyIter_range (IsRange.new ..) (small_one h1 h2 h3 h4) ?_
 have I1 : Inv X pins σ H { s with heap := s.heap.push { cls := .type "range", data := .fields #[.int lo t, .int hi u, .int 1 v] }, toks := tk } := I.kept fun b o e => Heap.get?_push_of_some _ e
 refine ⟨(s.heap.push { cls := .type "range", data := .fields #[.int lo t, .int hi u, .int 1 v] }).objs.size, [(s.heap.push { cls := .type "range", data := .fields #[.int lo t, .int hi u, .int 1 v] }).objs.size], _, _, H, rfl,
  I1.kept (t' := tk) fun b o e => Heap.get?_push_of_some _ e, zgt _ lo (hi - lo).toNat, ?_, fun b hb => ?_, q⟩
 · have e1 : lo + ((0 : Nat) : Int) * 1 = lo := by simp
   have e2 : (((hi - lo).toNat : Nat) : Int) - ((0 : Nat) : Int) = Builtin.Range.rangeSize lo hi 1 := by rw [rangeSize_one]; split <;> omega
   show IsRangeIter _ _ (lo + ((0 : Nat) : Int) * 1) ((((hi - lo).toNat : Nat) : Int) - ((0 : Nat) : Int)) 1
   rw [e1, e2]
   exact Heap.get?_push_size _ rfl
 · have e : b = (s.heap.push { cls := .type "range", data := .fields #[.int lo t, .int hi u, .int 1 v] }).objs.size := by simpa using hb
   subst e
   exact I1.fpOk (Nat.le_refl _) (I1.hok.fresh (Nat.le_refl _))
def zld (ta : TA) : TI := fun σ H R => ta σ H fun vs H1 => ∃ j : Int, vs = [.int j] ∧ -(2 ^ 62) ≤ j ∧ j < 2 ^ 62 ∧ R (Itr 0 j.toNat) H1
theorem zcF {a : Expr} {ta : TA} {p pos : Pos} (hg : Gl X "range") (hm : X.mg "range" = none) (ha : PA X [a] ta) (hs : starEach [a] X.env = [(false, eval a X.env)] := by rfl) : PI X tg (.Call (.Name "range" p) [a] [] pos) (zld ta) := by
 intro pins s σ H R I h
 refine Call_ (zdS I hg hm boot_range (PyProof.Rows.callWith_type1 (thn (ha pos pins s σ H _ I h) fun us s1 ⟨vs, H1, I1, r1, q1⟩ => ?_) hs rfl))
 obtain ⟨j, e, q1, q2, q⟩ := q1
 subst e
 cases r1 with
 | cons r rr =>
  cases rr
  obtain ⟨t, rfl⟩ := r
  exact call_range_1 (ziw I1 (by omega) (by omega) q1 q2 (by simpa using q))
def tFor (wi : TI) (g : TG) (tb : TS) : TS := fun D σ H => wi σ H fun J H1 => ∃ W : Nat → Nat → St → Hp → Prop, (∃ m, W 0 m σ H1) ∧ ∀ i m σ H, W i m σ H →
 (J.stop i H ∧ D.nx σ H) ∨ (J.go i H ∧ ∃ N : St → Hp → Prop, (∀ σ' H', N σ' H' → ∃ m', m' < m ∧ W (i + 1) m' σ' H') ∧ ∀ x H', J.yld i H x H' → g x σ H' fun σ2 H2 => tb { D with nx := N, ct := N, bk := D.nx } σ2 H2)
def zdv (fp : List Addr) (h : Heap) : List (Addr × Obj) := fp.filterMap fun b => (h.get? b).map fun o => (b, o)
theorem za2 {fp : List Addr} {h : Heap} {b : Addr} {o : Obj} (hb : b ∈ fp) (e : h.get? b = some o) : (b, o) ∈ zdv fp h := List.mem_filterMap.mpr ⟨b, hb, by rw [e]; rfl⟩
theorem zhz {fp : List Addr} {h : Heap} {p : Addr × Obj} (hp : p ∈ zdv fp h) : p.1 ∈ fp ∧ h.get? p.1 = some p.2 := by
 obtain ⟨b, hb, e⟩ := List.mem_filterMap.mp hp
 cases q : h.get? b with
 | none => rw [q] at e; cases e
 | some o =>
  rw [q] at e
  have e' : (b, o) = p := Option.some.inj e
  subst e'
  exact ⟨hb, q⟩
theorem Inv.pinned {pins : List (Addr × Obj)} {σ : St} {H : Hp} {s : Shared} {fp : List Addr} (I : Inv X pins σ H s) (hf : ∀ b ∈ fp, FpOk X pins H b) (ho : ∀ b ∈ fp, ∃ o, s.heap.get? b = some o ∧ ∀ v, o.data ≠ .cell v) : Inv X (pins ++ zdv fp s.heap) σ H s :=
 I.pins_of fun p hp => (List.mem_append.mp hp).elim (fun z => I.pin p (List.mem_append_right _ z)) fun z => by
  obtain ⟨hb, e⟩ := zhz z
  obtain ⟨f0, f1, f2, _⟩ := hf p.1 hb
  obtain ⟨o, e', d⟩ := ho p.1 hb
  rw [e] at e'; cases e'
  exact ⟨e, f0, f1, f2, d⟩
theorem Inv.unpinned {pins pl : List (Addr × Obj)} {σ : St} {H : Hp} {s : Shared} (I : Inv X (pins ++ pl) σ H s) : Inv X pins σ H s := I.pins_of fun p hp => I.pin p (List.mem_append_right _ (List.mem_append_left _ hp))
theorem zct {iter : Expr} {body : List Stmt} {wi : TI} {g : TG} {tb : TS} {pos : Pos} (hp : PassesOwn (model X.prog X.w) X.A X.env X.xe) (hc : X.calm = true) (hi : PI X tg iter wi) (hg : PG X tg g) (hb : PSs X body tb)
 (hs : ∀ x, foldedSetIterable iter X.env x = pure x := by intro _; rfl) : PS X (.For tg iter body [] pos) (tFor wi g tb) := by
 intro pins s σ H D I h
 refine wpAny_For (thn (hi pins s σ H _ I h) fun v s1 h1 => thn h1 fun itv s2 h2 => ?_) hs
 obtain ⟨it, fp, tn, J, H2, e, I2, T, st2, f2, W, ⟨m0, w0⟩, turn⟩ := h2
 subst e
 have stat : ∀ {H' : Hp}, (∀ b ∈ fp, H' b = none) → ∀ b ∈ fp, FpOk X pins H' b := fun hn b hb => ⟨hn b hb, (f2 b hb).2⟩
 refine codeAny_forLoop_any (fun n s' => ∃ i σ' H', Inv X pins σ' H' s' ∧ tn i s'.heap ∧ (∀ b ∈ fp, H' b = none) ∧ W i n σ' H') ?_ m0 ⟨0, σ, H2, I2, st2, fun b hb => (f2 b hb).1, w0⟩
 rintro n s3 ⟨i, σ3, H3, I3, st3, fr3, w3⟩
 rcases turn i n σ3 H3 w3 with ⟨stop, qn⟩ | ⟨go, N, hN, step⟩
 · refine wpAny_passesOwn hp (thn (T.done X rfl rfl rfl hc i pins s3 σ3 H3 X.xe I3 (stat fr3) st3 stop) fun r s4 ⟨hr, I4⟩ => ?_)
   subst hr
   exact wpAny_execs_nil ⟨σ3, H3, I4, qn⟩
 · refine wpAny_passesOwn hp (thn (T.item X rfl rfl rfl hc i pins s3 σ3 H3 X.xe I3 (stat fr3) st3 go) fun r s4 ⟨u, hr, h4⟩ => ?_)
   subst hr
   refine wpAny_passesOwn hp (thn h4 fun _ s5 ⟨x, H5, I5, r5, y5, st5, fr5⟩ => ?_)
   have I5' := I5.pinned (stat fr5) (T.obj _ _ st5)
   refine wpAny_passesOwn hp (thn (hg _ s5 σ3 H5 x u _ I5' r5 (step x H5 y5)) fun _ s6 ⟨σ6, H6, I6, q6⟩ => ?_)
   refine wpAny_passesOwn hp (thn (hb _ s6 σ6 H6 _ I6 q6) fun f s7 q7 => ?_)
   have again : ∀ {σ7 : St} {H7 : Hp}, Inv X (pins ++ zdv fp s5.heap) σ7 H7 s7 → N σ7 H7 → ∃ m, m < n ∧ ∃ i σ' H', Inv X pins σ' H' s7 ∧ tn i s7.heap ∧ (∀ b ∈ fp, H' b = none) ∧ W i m σ' H' := fun {σ7 H7} I7 n7 => by
    obtain ⟨m', hm, w7⟩ := hN σ7 H7 n7
    refine ⟨m', hm, i + 1, σ7, H7, I7.unpinned, T.keep _ _ _ st5 fun b hb o e => (I7.pin (b, o) (List.mem_append_right _ (List.mem_append_right _ (za2 hb e)))).1, fun b hb => ?_, w7⟩
    obtain ⟨o, e, d⟩ := T.obj _ _ st5 b hb
    exact (I7.pin (b, o) (List.mem_append_right _ (List.mem_append_right _ (za2 hb e)))).2.1
   cases f with
   | next => obtain ⟨σ7, H7, I7, n7⟩ := q7; exact again I7 n7
   | cont => obtain ⟨σ7, H7, I7, n7⟩ := q7; exact again I7 n7
   | brk => obtain ⟨σ7, H7, I7, q7⟩ := q7; exact ⟨σ7, H7, I7.unpinned, q7⟩
   | ret v => obtain ⟨x7, σ7, H7, I7, r7, q7⟩ := q7; exact ⟨x7, σ7, H7, I7.unpinned, r7, q7⟩
end
theorem zeq {K : PySem.W.Frag} {a : Addr} {xs : List V} {g : TG} {tb : TS} {D : Ends} {σ : St} {H : Hp} (Pv : Nat → St → Hp → Prop) (h0 : Pv 0 σ H) (hl : ∀ i σ H, i ≤ xs.length → Pv i σ H → SqL K H a xs)
 (hs : ∀ i x σ H, xs[i]? = some x → Pv i σ H → g x σ H fun σ2 H2 => tb { D with nx := Pv (i + 1), ct := Pv (i + 1), bk := D.nx } σ2 H2) (hd : ∀ σ H, Pv xs.length σ H → D.nx σ H) :
 ∃ W : Nat → Nat → St → Hp → Prop, (∃ m, W 0 m σ H) ∧ ∀ i m σ H, W i m σ H →
  ((Itl K a).stop i H ∧ D.nx σ H) ∨ ((Itl K a).go i H ∧ ∃ N : St → Hp → Prop, (∀ σ' H', N σ' H' → ∃ m', m' < m ∧ W (i + 1) m' σ' H') ∧ ∀ x H', (Itl K a).yld i H x H' → g x σ H' fun σ2 H2 => tb { D with nx := N, ct := N, bk := D.nx } σ2 H2) := by
 refine ⟨fun i m σ H => m = xs.length - i ∧ i ≤ xs.length ∧ Pv i σ H, ⟨xs.length, by simp, Nat.zero_le _, h0⟩, ?_⟩
 rintro i m σ H ⟨rfl, hi, p⟩
 have q := hl i σ H hi p
 by_cases hlt : i < xs.length
 · refine .inr ⟨⟨xs, xs[i], q, by simp [hlt]⟩, Pv (i + 1), fun σ' H' p' => ⟨xs.length - (i + 1), by omega, rfl, hlt, p'⟩, fun x H' y => ?_⟩
   obtain ⟨e, y⟩ := y
   subst e
   exact hs i x σ _ (y xs q) p
 · have e : i = xs.length := by omega
   subst e
   exact .inl ⟨⟨xs, q, Nat.le_refl _⟩, hd σ H p⟩
theorem zep {K : PySem.W.Frag} {a : Addr} {xs : List V} {g : TG} {tb : TS} {D : Ends} {σ : St} {H : Hp} (Pv : Nat → St → Hp → Prop) (h0 : Pv 0 σ H) (hl : ∀ i σ H, i ≤ xs.length → Pv i σ H → SqT K H a xs)
 (hs : ∀ i x σ H, xs[i]? = some x → Pv i σ H → g x σ H fun σ2 H2 => tb { D with nx := Pv (i + 1), ct := Pv (i + 1), bk := D.nx } σ2 H2) (hd : ∀ σ H, Pv xs.length σ H → D.nx σ H) :
 ∃ W : Nat → Nat → St → Hp → Prop, (∃ m, W 0 m σ H) ∧ ∀ i m σ H, W i m σ H →
  ((Itt K a).stop i H ∧ D.nx σ H) ∨ ((Itt K a).go i H ∧ ∃ N : St → Hp → Prop, (∀ σ' H', N σ' H' → ∃ m', m' < m ∧ W (i + 1) m' σ' H') ∧ ∀ x H', (Itt K a).yld i H x H' → g x σ H' fun σ2 H2 => tb { D with nx := N, ct := N, bk := D.nx } σ2 H2) := by
 refine ⟨fun i m σ H => m = xs.length - i ∧ i ≤ xs.length ∧ Pv i σ H, ⟨xs.length, by simp, Nat.zero_le _, h0⟩, ?_⟩
 rintro i m σ H ⟨rfl, hi, p⟩
 have q := hl i σ H hi p
 by_cases hlt : i < xs.length
 · refine .inr ⟨⟨xs, xs[i], q, by simp [hlt]⟩, Pv (i + 1), fun σ' H' p' => ⟨xs.length - (i + 1), by omega, rfl, hlt, p'⟩, fun x H' y => ?_⟩
   obtain ⟨e, y⟩ := y
   subst e
   exact hs i x σ _ (y xs q) p
 · have e : i = xs.length := by omega
   subst e
   exact .inl ⟨⟨xs, q, Nat.le_refl _⟩, hd σ H p⟩
theorem zeZ {lo : Int} {n : Nat} {g : TG} {tb : TS} {D : Ends} {σ : St} {H : Hp} (Pv : Nat → St → Hp → Prop) (h0 : Pv 0 σ H)
 (hs : ∀ i σ H, i < n → Pv i σ H → g (.int (lo + i)) σ H fun σ2 H2 => tb { D with nx := Pv (i + 1), ct := Pv (i + 1), bk := D.nx } σ2 H2) (hd : ∀ σ H, Pv n σ H → D.nx σ H) :
 ∃ W : Nat → Nat → St → Hp → Prop, (∃ m, W 0 m σ H) ∧ ∀ i m σ H, W i m σ H →
  ((Itr lo n).stop i H ∧ D.nx σ H) ∨ ((Itr lo n).go i H ∧ ∃ N : St → Hp → Prop, (∀ σ' H', N σ' H' → ∃ m', m' < m ∧ W (i + 1) m' σ' H') ∧ ∀ x H', (Itr lo n).yld i H x H' → g x σ H' fun σ2 H2 => tb { D with nx := N, ct := N, bk := D.nx } σ2 H2) := by
 refine ⟨fun i m σ H => m = n - i ∧ i ≤ n ∧ Pv i σ H, ⟨n, by simp, Nat.zero_le _, h0⟩, ?_⟩
 rintro i m σ H ⟨rfl, hi, p⟩
 by_cases hlt : i < n
 · refine .inr ⟨hlt, Pv (i + 1), fun σ' H' p' => ⟨n - (i + 1), by omega, rfl, hlt, p'⟩, fun x H' y => ?_⟩
   obtain ⟨e, y⟩ := y
   subst e y
   exact hs i σ _ hlt p
 · have e : i = n := by omega
   subst e
   exact .inl ⟨Nat.le_refl _, hd σ H p⟩
abbrev R2 := V → V → Hp → VK → Prop
def OpR (X : Cx) (f : Value → Value → Sem Value) (r : R2) : Prop :=
 ∀ (pins : List (Addr × Obj)) (s : Shared) (σ : St) (H : Hp) (x y : V) (v u : Value) (Q : VK), Inv X pins σ H s → RelV x v → RelV y u → r x y H Q →
  wpAny (model X.prog X.w) X.A (f v u) (EP X pins σ Q) X.xe s
def zc0 (X : Cx) (f : Value) (r : List V → Hp → VK → Prop) : Prop :=
 ∀ (pins : List (Addr × Obj)) (s : Shared) (σ : St) (H : Hp) (xs : List V) (us : List Value) (Q : VK), Inv X pins σ H s → Vals xs us → r xs H Q →
  wpAny (model X.prog X.w) X.A (call f us) (EP X pins σ Q) X.xe s
def tOp (r : R2) (ta tb : TE) : TE := fun σ H Q => ta σ H fun x H1 => tb σ H1 fun y H2 => r x y H2 Q
def rI (C : Int → Int → Prop) (g : Int → Int → V) : R2 := fun x y H Q => ∃ i j, x = .int i ∧ y = .int j ∧ C i j ∧ Q (g i j) H
def rI0 (g : Int → Int → V) : R2 := fun x y H Q => ∃ i j, x = .int i ∧ y = .int j ∧ Q (g i j) H
section
variable {X : Cx} {a b c : Expr} {ta tb tc : TE} {pos : Pos}
theorem binT (ha : PE X a ta) (hb : PE X b tb) {pins : List (Addr × Obj)} {s : Shared} {σ : St} {H : Hp} {R : V → V → Hp → Prop} (I : Inv X pins σ H s)
 (h : ta σ H fun x H1 => tb σ H1 fun y H2 => R x y H2) {Q : Value → Shared → Prop} {f : Value → Value → Sem Value}
 (hf : ∀ v u s2 x y H2, Inv X pins σ H2 s2 → RelV x v → RelV y u → R x y H2 → wpAny (model X.prog X.w) X.A (f v u) Q X.xe s2) :
 wpAny (model X.prog X.w) X.A (eval a X.env) (fun v s₁ => wpAny (model X.prog X.w) X.A (eval b X.env) (fun u s₂ => wpAny (model X.prog X.w) X.A (f v u) Q X.xe s₂) X.xe s₁) X.xe s := by
 refine thn (ha pins s σ H _ I h) fun v s1 ⟨x, H1, I1, r1, q1⟩ => ?_
 refine thn (hb pins s1 σ H1 _ I1 q1) fun u s2 ⟨y, H2, I2, r2, q2⟩ => ?_
 exact hf v u s2 x y H2 I2 r1 r2 q2
theorem zat {op : Operator} {r : R2} (ho : OpR X (binaryOp op) r) (ha : PE X a ta) (hb : PE X b tb) : PE X (.BinOp a op b pos) (tOp r ta tb) := by
 intro pins s σ H Q I h
 exact wpAny_BinOp (binT ha hb I h fun v u s2 x y H2 I2 rx ry q => ho pins s2 σ H2 x y v u Q I2 rx ry q)
theorem opI {f : Value → Value → Sem Value} {C : Int → Int → Prop} {g : Int → Int → Int}
 (rule : ∀ (i j : Int) (t u : Tok) (s : Shared) (Q : Value → Shared → Prop) (E : Value → Shared → Prop), C i j → Q (.int (g i j) s.toks) { s with toks := s.toks + 1 } → wpAny (model X.prog X.w) X.A (f (.int i t) (.int j u)) Q E s) :
 OpR X f (rI C fun i j => .int (g i j)) := by
 intro pins s σ H x y v u Q I rx ry h
 obtain ⟨i, j, rfl, rfl, hc, q⟩ := h
 obtain ⟨t, rfl⟩ := rx
 obtain ⟨t', rfl⟩ := ry
 exact rule i j t t' s _ _ hc ⟨.int (g i j), H, I.tok _, ⟨_, rfl⟩, q⟩
theorem opI0 {f : Value → Value → Sem Value} {g : Int → Int → Int}
 (rule : ∀ (i j : Int) (t u : Tok) (s : Shared) (Q : Value → Shared → Prop) (E : Value → Shared → Prop), Q (.int (g i j) s.toks) { s with toks := s.toks + 1 } → wpAny (model X.prog X.w) X.A (f (.int i t) (.int j u)) Q E s) :
 OpR X f (rI0 fun i j => .int (g i j)) := by
 intro pins s σ H x y v u Q I rx ry h
 obtain ⟨i, j, rfl, rfl, q⟩ := h
 obtain ⟨t, rfl⟩ := rx
 obtain ⟨t', rfl⟩ := ry
 exact rule i j t t' s _ _ ⟨.int (g i j), H, I.tok _, ⟨_, rfl⟩, q⟩
theorem opB0 {f : Value → Value → Sem Value} {g : Int → Int → Bool}
 (rule : ∀ (i j : Int) (t u : Tok) (s : Shared) (Q : Value → Shared → Prop) (E : Value → Shared → Prop), Q (.bool (g i j)) s → wpAny (model X.prog X.w) X.A (f (.int i t) (.int j u)) Q E s) :
 OpR X f (rI0 fun i j => .bl (g i j)) := by
 intro pins s σ H x y v u Q I rx ry h
 obtain ⟨i, j, rfl, rfl, q⟩ := h
 obtain ⟨t, rfl⟩ := rx
 obtain ⟨t', rfl⟩ := ry
 exact rule i j t t' s _ _ ⟨.bl (g i j), H, I, rfl, q⟩
def CMul (i j : Int) : Prop := (-(2 ^ 64) < i ∧ i < 2 ^ 64) ∨ (-(2 ^ 64) < j ∧ j < 2 ^ 64)
theorem CMul.ok {i j : Int} (h : CMul i j) : IntMulOk i j := by
 rcases h with ⟨h1, h2⟩ | ⟨h1, h2⟩
 · exact .of_left (intBits_le_64 h1 h2)
 · exact .of_right (intBits_le_64 h1 h2)
theorem zaS : OpR X (binaryOp .Add) (rI0 fun i j => .int (i + j)) := opI0 fun _ _ _ _ _ _ _ q => add_int q
theorem zeP : OpR X (binaryOp .Sub) (rI0 fun i j => .int (i - j)) := opI0 fun _ _ _ _ _ _ _ q => sub_int q
theorem zdy : OpR X (binaryOp .Mult) (rI CMul fun i j => .int (i * j)) := opI fun _ _ _ _ _ _ _ hc q => mul_int q hc.ok
theorem zcH : OpR X (binaryOp .Mod) (rI (fun _ j => 0 < j) fun i j => .int (i % j)) := opI fun i j _ _ _ _ _ hc q => by
 have h1 : (0 : Int) < j := hc
 exact mod_int' (by omega) (by rw [Int.fmod_eq_emod_of_nonneg i (by omega)]; exact q)
end
def scal : V → V → Bool
 | .non, .non => true | .non, .int _ => true | .int _, .non => true | .non, .bl _ => true | .bl _, .non => true | .non, .str _ => true | .str _, .non => true
 | .int _, .int _ => true | .bl _, .bl _ => true | .str _, .str _ => true | .byt _, .byt _ => true
 | .int _, .str _ => true | .str _, .int _ => true | .bl _, .str _ => true | .str _, .bl _ => true
 | _, _ => false
def rEq : R2 := fun x y H Q => scal x y = true ∧ Q (.bl (decide (x = y))) H
def rNe : R2 := fun x y H Q => scal x y = true ∧ Q (.bl (!decide (x = y))) H
theorem zh1 {i j : Int} : decide (V.int i = V.int j) = (i == j) := by
 rw [Bool.eq_iff_iff]
 simp
theorem zji {i j : Bool} : decide (V.bl i = V.bl j) = (i == j) := by
 rw [Bool.eq_iff_iff]
 simp
theorem zh0 {i j : Str} : decide (V.str i = V.str j) = (i == j) := by
 rw [Bool.eq_iff_iff]
 simp
theorem zh2 {i j : Array UInt8} : decide (V.byt i = V.byt j) = (i.toList == j.toList) := by
 rw [Bool.eq_iff_iff]
 cases i
 cases j
 simp
section
variable {X : Cx} {a b c : Expr} {ta tb tc : TE} {pos : Pos}
theorem zaF {pins : List (Addr × Obj)} {σ : St} {H : Hp} {s : Shared} {Q : VK} {k k' : Bool} (I : Inv X pins σ H s) (q : Q (.bl k) H) (e : k = k') : EP X pins σ Q (.bool k') s := by
 subst e
 exact ⟨.bl k, H, I, rfl, q⟩
theorem zcU : OpR X (compareOp .Eq) rEq := by
 intro pins s σ H x y v u Q I rx ry h
 obtain ⟨hs, q⟩ := h
 cases x with
 | non =>
  cases rx
  cases y with
  | non => cases ry; exact PySem.EqNone.eq_none_none (zaF I q (by simp))
  | bl j => cases ry; exact PySem.EqNone.eq_none_bool (zaF I q (by simp))
  | int j => obtain ⟨t', rfl⟩ := ry; exact PySem.EqNone.eq_none_int (zaF I q (by simp))
  | str j => obtain ⟨t', rfl⟩ := ry; exact PySem.EqNone.eq_none_str (zaF I q (by simp))
  | _ => exact absurd (show false = true from hs) Bool.false_ne_true
 | bl i =>
  cases rx
  cases y with
  | non => cases ry; exact PySem.EqNone.eq_bool_none (zaF I q (by simp))
  | bl j => cases ry; exact eq_bool (zaF I q zji)
  | str j => obtain ⟨t', rfl⟩ := ry; exact PySem.EqMixed.eq_bool_str (zaF I q (by simp))
  | _ => exact absurd (show false = true from hs) Bool.false_ne_true
 | int i =>
  obtain ⟨t, rfl⟩ := rx
  cases y with
  | non => cases ry; exact PySem.EqNone.eq_int_none (zaF I q (by simp))
  | int j => obtain ⟨t', rfl⟩ := ry; exact eq_int (zaF I q zh1)
  | str j => obtain ⟨t', rfl⟩ := ry; exact PySem.EqMixed.eq_int_str (zaF I q (by simp))
  | _ => exact absurd (show false = true from hs) Bool.false_ne_true
 | str i =>
  obtain ⟨t, rfl⟩ := rx
  cases y with
  | non => cases ry; exact PySem.EqNone.eq_str_none (zaF I q (by simp))
  | bl j => cases ry; exact PySem.EqMixed.eq_str_bool (zaF I q (by simp))
  | int j => obtain ⟨t', rfl⟩ := ry; exact PySem.EqMixed.eq_str_int (zaF I q (by simp))
  | str j => obtain ⟨t', rfl⟩ := ry; exact eq_str (zaF I q zh0)
  | _ => exact absurd (show false = true from hs) Bool.false_ne_true
 | byt i =>
  obtain ⟨t, rfl⟩ := rx
  cases y with
  | byt j => obtain ⟨t', rfl⟩ := ry; exact PySem.W.eq_bytes (zaF I q zh2)
  | _ => exact absurd (show false = true from hs) Bool.false_ne_true
 | _ => cases y <;> exact absurd (show false = true from hs) Bool.false_ne_true
theorem zhv : OpR X (compareOp .NotEq) rNe := by
 intro pins s σ H x y v u Q I rx ry h
 obtain ⟨hs, q⟩ := h
 cases x with
 | non =>
  cases rx
  cases y with
  | non => cases ry; exact PySem.EqNone.ne_none_none (zaF I q (by simp))
  | bl j => cases ry; exact PySem.EqNone.ne_none_bool (zaF I q (by simp))
  | int j => obtain ⟨t', rfl⟩ := ry; exact PySem.EqNone.ne_none_int (zaF I q (by simp))
  | str j => obtain ⟨t', rfl⟩ := ry; exact PySem.EqNone.ne_none_str (zaF I q (by simp))
  | _ => exact absurd (show false = true from hs) Bool.false_ne_true
 | bl i =>
  cases rx
  cases y with
  | non => cases ry; exact PySem.EqNone.ne_bool_none (zaF I q (by simp))
  | bl j => cases ry; exact ne_bool (zaF I q (congrArg not zji))
  | str j => obtain ⟨t', rfl⟩ := ry; exact PySem.EqMixed.ne_bool_str (zaF I q (by simp))
  | _ => exact absurd (show false = true from hs) Bool.false_ne_true
 | int i =>
  obtain ⟨t, rfl⟩ := rx
  cases y with
  | non => cases ry; exact PySem.EqNone.ne_int_none (zaF I q (by simp))
  | int j => obtain ⟨t', rfl⟩ := ry; exact ne_int (zaF I q (congrArg not zh1))
  | str j => obtain ⟨t', rfl⟩ := ry; exact PySem.EqMixed.ne_int_str (zaF I q (by simp))
  | _ => exact absurd (show false = true from hs) Bool.false_ne_true
 | str i =>
  obtain ⟨t, rfl⟩ := rx
  cases y with
  | non => cases ry; exact PySem.EqNone.ne_str_none (zaF I q (by simp))
  | bl j => cases ry; exact PySem.EqMixed.ne_str_bool (zaF I q (by simp))
  | int j => obtain ⟨t', rfl⟩ := ry; exact PySem.EqMixed.ne_str_int (zaF I q (by simp))
  | str j => obtain ⟨t', rfl⟩ := ry; exact ne_str (zaF I q (congrArg not zh0))
  | _ => exact absurd (show false = true from hs) Bool.false_ne_true
 | byt i =>
  obtain ⟨t, rfl⟩ := rx
  cases y with
  | byt j => obtain ⟨t', rfl⟩ := ry; exact PySem.W.ne_bytes (zaF I q (congrArg not zh2))
  | _ => exact absurd (show false = true from hs) Bool.false_ne_true
 | _ => cases y <;> exact absurd (show false = true from hs) Bool.false_ne_true
theorem ziI : OpR X (compareOp .Lt) (rI0 fun i j => .bl (decide (i < j))) := opB0 fun _ _ _ _ _ _ _ q => lt_int q
theorem zhx : OpR X (compareOp .LtE) (rI0 fun i j => .bl (decide (i ≤ j))) := opB0 fun _ _ _ _ _ _ _ q => le_int q
theorem zkw : OpR X (compareOp .Gt) (rI0 fun i j => .bl (decide (j < i))) := opB0 fun _ _ _ _ _ _ _ q => gt_int q
theorem zlc : OpR X (compareOp .GtE) (rI0 fun i j => .bl (decide (j ≤ i))) := opB0 fun _ _ _ _ _ _ _ q => ge_int q
theorem zhw : OpR X (compareOp .Lt) (fun x y H Q => ∃ i j, x = .str i ∧ y = .str j ∧ Q (.bl (decide (i.cps.toList < j.cps.toList))) H) := by
 intro pins s σ H x y v u Q I rx ry h
 obtain ⟨i, j, rfl, rfl, q⟩ := h
 obtain ⟨t, rfl⟩ := rx
 obtain ⟨t', rfl⟩ := ry
 exact lt_str (zaF I q rfl)
theorem zaA (b : Expr) {op : CmpOp} (h : op ≠ .In := by decide) (h2 : op ≠ .NotIn := by decide) : behindInMarks op b = false := by
 have e1 : (op == CmpOp.In) = false := by cases op <;> first | rfl | exact absurd rfl h
 have e2 : (op == CmpOp.NotIn) = false := by cases op <;> first | rfl | exact absurd rfl h2
 cases b <;> simp [behindInMarks, e1, e2]
theorem zb8 {op : CmpOp} {r : R2} (ho : OpR X (compareOp op) r) (ha : PE X a ta) (hb : PE X b tb) (hm : behindInMarks op b = false) : PE X (.Compare a [op] [b] pos) (tOp r ta tb) := by
 intro pins s σ H Q I h
 exact wpAny_Compare1 (binT ha hb I h fun v u s2 x y H2 I2 rx ry q => ho pins s2 σ H2 x y v u Q I2 rx ry q) hm
def zkb (t : TE) : TT := fun σ H Q => t σ H fun x H' => ∃ k, x = .bl k ∧ Q k H'
theorem zax {op : CmpOp} {r : R2} (ho : OpR X (compareOp op) r) (ha : PE X a ta) (hb : PE X b tb) (hm : behindInMarks op b = false) : PT X (.Compare a [op] [b] pos) (zkb (tOp r ta tb)) := by
 intro pins s σ H Q I h
 refine wpAny_isTrue_Compare1 (thn (ha pins s σ H _ I h) fun v s1 ⟨x, H1, I1, r1, q1⟩ => thn (hb pins s1 σ H1 _ I1 q1) fun u s2 ⟨y, H2, I2, r2, q2⟩ =>
  thn (ho pins s2 σ H2 x y v u _ I2 r1 r2 q2) fun c s3 ⟨z, H3, I3, r3, k, e, q3⟩ => ?_) hm
 subst e
 cases r3
 exact wpAny_truthy_bool ⟨H3, I3, q3⟩
def zi5 (r r' : R2) (ta tb tc : TE) : TE := fun σ H Q => ta σ H fun x H1 => tb σ H1 fun y H2 => r x y H2 fun z H3 => ∃ k, z = .bl k ∧
 (if k = true then tc σ H3 fun w' H4 => r' y w' H4 Q else Q (.bl false) H3)
theorem ziH {op op' : CmpOp} {r r' : R2} (ho : OpR X (compareOp op) r) (ho' : OpR X (compareOp op') r') (ha : PE X a ta) (hb : PE X b tb) (hc : PE X c tc)
 (hm : lastMarks [op, op'] [b, c] = false := by with_unfolding_all rfl) : PE X (.Compare a [op, op'] [b, c] pos) (zi5 r r' ta tb tc) := by
 intro pins s σ H Q I h
 refine Compare_chain (thn (ha pins s σ H _ I h) fun v s1 ⟨x, H1, I1, r1, q1⟩ => chain_link (thn (hb pins s1 σ H1 _ I1 q1) fun u s2 ⟨y, H2, I2, r2, q2⟩ =>
  thn (ho pins s2 σ H2 x y v u _ I2 r1 r2 q2) fun d s3 ⟨z, H3, I3, r3, k, e, q3⟩ => ?_)) hm
 subst e
 cases r3
 refine wpAny_truthy_bool ?_
 cases k with
 | false => exact ite_ff ⟨.bl false, H3, I3, rfl, q3⟩
 | true => exact ite_tt (chain_last (thn (hc pins s3 σ H3 _ I3 q3) fun w' s4 ⟨z', H4, I4, r4, q4⟩ => ho' pins s4 σ H4 y z' u w' Q I4 r2 r4 q4))
theorem ziB {op op' : CmpOp} {r r' : R2} (ho : OpR X (compareOp op) r) (ho' : OpR X (compareOp op') r') (ha : PE X a ta) (hb : PE X b tb) (hc : PE X c tc)
 (hm : lastMarks [op, op'] [b, c] = false := by with_unfolding_all rfl) : PT X (.Compare a [op, op'] [b, c] pos) (zkb (zi5 r r' ta tb tc)) := by
 intro pins s σ H Q I h
 refine isTrue_chain (thn (ha pins s σ H _ I h) fun v s1 ⟨x, H1, I1, r1, q1⟩ => test_link (thn (hb pins s1 σ H1 _ I1 q1) fun u s2 ⟨y, H2, I2, r2, q2⟩ =>
  thn (ho pins s2 σ H2 x y v u _ I2 r1 r2 q2) fun d s3 ⟨z, H3, I3, r3, k, e, q3⟩ => ?_)) hm
 subst e
 cases r3
 refine wpAny_truthy_bool ?_
 cases k with
 | false =>
  obtain ⟨k', e', q'⟩ := q3
  cases e'
  exact ite_ff ⟨H3, I3, q'⟩
 | true =>
  refine ite_tt (test_last (thn (hc pins s3 σ H3 _ I3 q3) fun w' s4 ⟨z', H4, I4, r4, q4⟩ => thn (ho' pins s4 σ H4 y z' u w' _ I4 r2 r4 q4) fun d' s5 ⟨z2, H5, I5, r5, k2, e2, q5⟩ => ?_))
  subst e2
  cases r5
  exact wpAny_truthy_bool ⟨H5, I5, q5⟩
theorem zdR : (sizeLine : Nat) < 2 ^ 63 := by rw [sizeLine_eq]; decide
theorem zcr : OpR X (binaryOp .Add) (fun x y H Q => ∃ i j, x = .str i ∧ y = .str j ∧ i.length + j.length ≤ sizeLine ∧ Q (.str (i ++ j)) H) := by
 intro pins s σ H x y v u Q I rx ry h
 obtain ⟨i, j, rfl, rfl, hz, q⟩ := h
 obtain ⟨t, rfl⟩ := rx
 obtain ⟨t', rfl⟩ := ry
 exact add_str (fun t' tk => ⟨.str (i ++ j), H, I.tok _, ⟨_, rfl⟩, q⟩) hz
theorem zdW {x : V} {us : List Value} (r : Vals [x] us) : ∃ u, us = [u] ∧ RelV x u := by
 cases r with
 | cons r1 r2 => cases r2; exact ⟨_, rfl, r1⟩
theorem zgS {x y : V} {us : List Value} (r : Vals [x, y] us) : ∃ u w', us = [u, w'] ∧ RelV x u ∧ RelV y w' := by
 cases r with
 | cons r1 r2 =>
  cases r2 with
  | cons r3 r4 => cases r4; exact ⟨_, _, rfl, r1, r3⟩
theorem zey : zc0 X (.builtin "abs") (fun xs H Q => ∃ i, xs = [.int i] ∧ Q (.int (if i < 0 then -i else i)) H) := by
 intro pins s σ H xs us Q I r h
 obtain ⟨i, rfl, q⟩ := h
 obtain ⟨u, rfl, t, rfl⟩ := zdW r
 exact call_abs_int fun u tk => ⟨.int (if i < 0 then -i else i), H, I.tok _, ⟨_, rfl⟩, q⟩
theorem zia (hc : X.calm = true) : zc0 X (.builtin "max") (fun xs H Q => ∃ i j, xs = [.int i, .int j] ∧ Q (.int (if j > i then j else i)) H) := by
 intro pins s σ H xs us Q I r h
 obtain ⟨i, j, rfl, q⟩ := h
 obtain ⟨u, w', rfl, ⟨t, rfl⟩, ⟨t', rfl⟩⟩ := zgS r
 refine max_two_ints (I.ok.hd hc) fun h' tk k => ⟨_, H, I.kept k, ?_, q⟩
 by_cases hj : j > i
 · rw [if_pos hj, if_pos hj]; exact ⟨_, rfl⟩
 · rw [if_neg hj, if_neg hj]; exact ⟨_, rfl⟩
theorem ze4 (hc : X.calm = true) : zc0 X (.builtin "min") (fun xs H Q => ∃ i j, xs = [.int i, .int j] ∧ Q (.int (if j < i then j else i)) H) := by
 intro pins s σ H xs us Q I r h
 obtain ⟨i, j, rfl, q⟩ := h
 obtain ⟨u, w', rfl, ⟨t, rfl⟩, ⟨t', rfl⟩⟩ := zgS r
 refine min_two_ints (I.ok.hd hc) fun h' tk k => ⟨_, H, I.kept k, ?_, q⟩
 by_cases hj : j < i
 · rw [if_pos hj, if_pos hj]; exact ⟨_, rfl⟩
 · rw [if_neg hj, if_neg hj]; exact ⟨_, rfl⟩
end
structure ObjM (h : Heap) (x dx C : Addr) (mA : Str → Option Value) : Prop where
 obj : h.get? x = some (PySem.W.instObj C dx)
 ns : h.Ns1 dx mA
 ne : dx ≠ x
theorem zhF {h : Heap} {dx : Addr} {mA : Str → Option Value} (n : h.Ns1 dx mA) : ∃ od, h.get? dx = some od ∧ ∀ name, PySem.W.lookIn name od = some (mA name) := by
 obtain ⟨o, es, ep, ho, hd, hk, _, hm⟩ := n
 refine ⟨o, ho, fun name => ?_⟩
 have e := hm name
 unfold nsFind findBy at e
 rw [← Array.find?_toList] at e
 unfold PySem.W.lookIn
 rw [hd]
 dsimp only
 split
 · rename_i y q
   rw [q] at e
   exact congrArg some e
 · rename_i q
   rw [q] at e
   have a : es.toList.any (·.refKey) = false := by
    rw [List.any_eq_false]
    intro y hy
    obtain ⟨z, t, hkey⟩ := hk y (Array.mem_toList_iff.mp hy)
    simp [DictEntry.refKey, hkey]
   have a' : ¬ es.toList.any (·.refKey) = true := by rw [a]; exact Bool.false_ne_true
   rw [if_neg a']
   exact congrArg some e
theorem ObjM.look {h : Heap} {x dx C : Addr} {mA : Str → Option Value} (I : ObjM h x dx C mA) : ∃ od, PySem.W.InstAt h x (PySem.W.instObj C dx) C (some od) ∧ ∀ name, PySem.W.lookIn name od = some (mA name) :=
 let ⟨od, ho, hl⟩ := zhF I.ns
 ⟨od, ⟨I.obj, rfl, rfl, ho⟩, hl⟩
section
variable {prog : Program} {w : World} {A : Around} {E : Value → Shared → Prop} {s : Shared} {K : PySem.W.Frag} {x dx C f : Addr} {mA : Str → Option Value} {name : Str} {v : Value}
end
theorem RelO.some_of {v : V} {o : Option Value} (r : RelO (some v) o) : ∃ u, o = some u ∧ RelV v u := by
 cases o with
 | none => exact (show False from r).elim
 | some u => exact ⟨u, rfl, r⟩
section
variable {P : Program} {w : World} {H H' : Hp} {h h' : Heap} {a C dx : Addr} {fs fs' : List (Str × V)}
theorem zjS (hok : HOk P w H h) (e : H a = some (.ins C dx fs)) : ∃ mA, ObjM h a dx C mA ∧ (∀ f, RelO (fs.lookup f) (mA f)) ∧ PySem.Within mA (fs.map (·.1)) ∧ fs.length ≤ 1000 ∧ H dx = some (.own a) := by
 obtain ⟨d, z, ne, ob, mA, n, r, q⟩ := (show ObjOk P w H h a (.ins C dx fs) from hok a _ e)
 exact ⟨mA, ⟨ob, n, ne⟩, r, q, z, d⟩
end
structure Cls (K : PySem.W.Frag) (C : Addr) : Prop where
 pg : PySem.W.plainGet K C Str.empty = true
 hd : PySem.W.hasDictIn K C = true
 po : PySem.W.plainOver K C = true
 sa : PySem.W.findIn K (.ref C) "__setattr__" = some (some (.builtin "object.__setattr__"))
theorem Cls.get {K : PySem.W.Frag} {C : Addr} (c : Cls K C) (f : Str) : PySem.W.plainGet K C f = true := c.pg
section
variable {X : Cx} {pins : List (Addr × Obj)} {σ : St} {H : Hp} {s : Shared} {a C dx : Addr} {fs : List (Str × V)} {f : Str} {v : V} {A : Around} {E : Value → Shared → Prop}
end
section
variable {X : Cx} {o e value : Expr} {f : Str} {pos pos' tpos : Pos} {ta tv : TE}
end
section
variable {X : Cx} {pins : List (Addr × Obj)} {σ : St} {H : Hp} {s : Shared} {A : Around} {E : Value → Shared → Prop} {Q : Value → Shared → Prop} {c : Value} {b : Bool}
inductive TyOf (K : PySem.W.Frag) (H : Hp) : V → Value → Prop where
 | non : TyOf K H .non (.type "NoneType")
 | bl (x : Bool) : TyOf K H (.bl x) (.type "bool")
 | int (i : Int) : TyOf K H (.int i) (.type "int")
 | str (x : Str) : TyOf K H (.str x) (.type "str")
 | flt (x : UInt64) : TyOf K H (.flt x) (.type "float")
 | lst {a : Addr} {xs : List V} (e : H a = some (.lst xs)) : TyOf K H (.ref a) (.type "list")
 | frz {a : Addr} {o : Obj} {xs : List V} (e : H a = some (.frz o (.lst xs))) : TyOf K H (.ref a) (.type "list")
 | tup {a : Addr} {xs : List V} (e : H a = some (.tup xs)) : TyOf K H (.ref a) (.type "tuple")
 | dK {a : Addr} {kvs : List (Key × V)} (e : H a = some (.dK kvs)) : TyOf K H (.ref a) (.type "dict")
 | dT {a : Addr} {kvs : List (List Key × V)} (e : H a = some (.dT kvs)) : TyOf K H (.ref a) (.type "dict")
 | ins {a C dx : Addr} {fs : List (Str × V)} (e : H a = some (.ins C dx fs)) (cl : Cls K C) (ha : PySem.W.findIn K (.ref C) "__class__" = some (some (.builtin "object.__class__")))
  (hn : PySem.W.specialIn K (.builtin "object.__class__") "__get__" = some (some (.builtin "getset_descriptor.__get__"))) (htk : PySem.W.takesIn K (.builtin "object.__class__") = some true)
  (hm : PySem.W.mroIn K C (.type "object") = some true) : TyOf K H (.ref a) (.ref C)
theorem zhN {x : V} {u t : Value} (I : Inv X pins σ H s) (rx : RelV x u) (ty : TyOf X.K H x t) (e : PySem.W.kitOne X.K t c = some b) (h : ∀ tk, Q (.bool b) { s with toks := tk }) :
 wpAny (model X.prog X.w) A (call (.builtin "isinstance") [u, c]) Q E s := by
 cases ty with
 | non => cases (show u = Value.none from rx); exact PySem.W.kia_one PySem.W.kitx_none I.kIn True.intro e (fun z => nomatch z) h
 | bl y => cases (show u = Value.bool y from rx); exact PySem.W.kia_one PySem.W.kitx_bool I.kIn True.intro e (fun z => nomatch z) h
 | int i => obtain ⟨t, q⟩ := (show ∃ t, u = Value.int i t from rx); cases q; exact PySem.W.kia_one PySem.W.kitx_int I.kIn True.intro e (fun z => nomatch z) h
 | str y => obtain ⟨t, q⟩ := (show ∃ t, u = Value.str y t from rx); cases q; exact PySem.W.kia_one PySem.W.kitx_str I.kIn True.intro e (fun z => nomatch z) h
 | flt y => obtain ⟨t, q⟩ := (show ∃ t, u = Value.float y t from rx); cases q; exact PySem.W.kia_one PySem.W.kitx_float I.kIn True.intro e (fun z => nomatch z) h
 | @lst a xs ea =>
  cases (show u = Value.ref a from rx)
  obtain ⟨_, _, n, _, h1⟩ := (show ObjOk X.prog X.w H s.heap a (.lst xs) from I.hok a _ ea)
  exact PySem.W.kia_one PySem.W.kitx_list I.kIn ⟨_, h1, rfl⟩ e (fun z => nomatch z) h
 | @frz a ob xs ea =>
  cases (show u = Value.ref a from rx)
  obtain ⟨_, _, _, n, _, h1⟩ := (show ObjOk X.prog X.w H s.heap a (.frz ob (.lst xs)) from I.hok a _ ea)
  exact PySem.W.kia_one PySem.W.kitx_list I.kIn ⟨_, h1, rfl⟩ e (fun z => nomatch z) h
 | @tup a xs ea =>
  cases (show u = Value.ref a from rx)
  obtain ⟨_, _, _, p⟩ := (show ObjOk X.prog X.w H s.heap a (.tup xs) from I.hok a _ ea)
  obtain ⟨o, h1, h2, _⟩ := p
  exact PySem.W.kia_one PySem.W.kitx_tuple I.kIn ⟨o, h1, h2⟩ e (fun z => nomatch z) h
 | @dK a kvs ea =>
  cases (show u = Value.ref a from rx)
  obtain ⟨_, _, vs, _, p⟩ := (show ObjOk X.prog X.w H s.heap a (.dK kvs) from I.hok a _ ea)
  obtain ⟨o, es, ep, h1, h2, _⟩ := p
  exact PySem.W.kia_one PySem.W.kitx_dict I.kIn ⟨o, h1, h2.1⟩ e (fun z => nomatch z) h
 | @dT a kvs ea =>
  cases (show u = Value.ref a from rx)
  obtain ⟨_, _, xs, _, o, es, ep, h1, h2, _⟩ := (show ObjOk X.prog X.w H s.heap a (.dT kvs) from I.hok a _ ea)
  exact PySem.W.kia_one PySem.W.kitx_dict I.kIn ⟨o, h1, h2.1⟩ e (fun z => nomatch z) h
 | @ins a C dx fs ea cl ha hn htk hm =>
  cases (show u = Value.ref a from rx)
  obtain ⟨mA, O, _⟩ := zjS I.hok ea
  obtain ⟨od, J, _⟩ := O.look
  exact PySem.W.kia_one (PySem.W.kitx_own (cl.get _) cl.hd ha hn htk hm) I.kIn J e (fun z => nomatch z) h
end
structure Room (k : Nat) (A : Around) : Prop where
 hd : A.handled = none
 dp : A.depth + 3 * k + 5 < recursionLimit
 un : A.units + 16 * k + 200 < cLine
 gd : A.guards = some []
theorem Room.mono {j k : Nat} {A : Around} (r : Room k A) (h : j ≤ k) : Room j A := ⟨r.hd, by have := r.dp; omega, by have := r.un; omega, r.gd⟩
theorem Room.deeper {k : Nat} {A : Around} (r : Room (k + 1) A) (env : Env) : Room k (A.deeper env) :=
 ⟨r.hd, by have := r.dp; show A.depth + 1 + 3 * k + 5 < _; omega, by have := r.un; show A.units + 3 + 16 * k + 200 < _; omega, r.gd⟩
theorem Room.in1 {k : Nat} {A : Around} (r : Room (k + 1) A) : Room k A.in1 :=
 ⟨r.hd, by have := r.dp; show A.depth + 3 * k + 5 < _; omega, by have := r.un; show A.units + 1 + 16 * k + 200 < _; omega, r.gd⟩
theorem Room.depth {k : Nat} {A : Around} (r : Room k A) : A.depth < recursionLimit := by have := r.dp; omega
theorem Room.units {k : Nat} {A : Around} (r : Room k A) : A.units + 64 < cLine := by have := r.un; omega
def tNil : TA := fun _ H Q => Q [] H
def zke (ta : TE) (tr : TA) : TA := fun σ H Q => ta σ H fun x H1 => tr σ H1 fun xs H2 => Q (x :: xs) H2
section
variable {X : Cx} {e : Expr} {es : List Expr} {te : TE} {t : TA} {pos : Pos}
theorem zac : PA X [] tNil := fun _ _ _ _ H Q I h => Calls.spliced_nil ⟨[], H, I, .nil, h⟩
theorem zaa (ha : PE X e te) (hr : PA X es t) (hs : starEach (e :: es) X.env = (false, eval e X.env) :: starEach es X.env := by rfl) : PA X (e :: es) (zke te t) := by
 intro pos pins s σ H Q I h
 rw [hs]
 show wpAny _ _ (spliced ((false, eval e X.env) :: backTo pos (starEach es X.env))) _ _ s
 refine Calls.spliced_cons (thn (ha pins s σ H _ I h) fun u s1 ⟨x, H1, I1, r1, q1⟩ => ?_)
 exact thn (hr pos pins s1 σ H1 _ I1 q1) fun us s2 ⟨xs, H2, I2, r2, q2⟩ => ⟨x :: xs, H2, I2, .cons r1 r2, q2⟩
def tTup (t : TA) : TE := fun σ H Q => t σ H fun xs H1 => xs.length ≤ sizeLine ∧ ∀ p, H1 p = none → Q (.ref p) (upd H1 p (.tup xs))
def tLst (t : TA) : TE := fun σ H Q => t σ H fun xs H1 => xs.length ≤ sizeLine ∧ ∀ p, H1 p = none → Q (.ref p) (upd H1 p (.lst xs))
theorem za9 {x1} (h : PA X es t) : PE X (.Tuple es x1 pos) (tTup t) := by
 intro pins s σ H Q I hq
 refine wpAny_Tuple_spliced (thn (h pos pins s σ H _ I hq) fun us s1 ⟨xs, H1, I1, r, z, q⟩ => ⟨by rw [← r.length]; exact z, ?_⟩)
 have hf : H1 s1.heap.objs.size = none := I1.hok.fresh (Nat.le_refl _)
 refine ⟨.ref s1.heap.objs.size, upd H1 s1.heap.objs.size (.tup xs), I1.laid (t' := s1.toks) (fun b u e => Heap.get?_push_of_some _ e) (Nat.le_refl _) ?_, rfl, q _ hf⟩
 exact ⟨z, us, r, ⟨_, Heap.get?_push_size _ rfl, rfl, rfl, _, rfl⟩⟩
theorem zb0 (h : PA X es t) : PE X (.List es pos) (tLst t) := by
 intro pins s σ H Q I hq
 refine wpAny_List_spliced (thn (h pos pins s σ H _ I hq) fun us s1 ⟨xs, H1, I1, r, z, q⟩ => ⟨by rw [← r.length]; exact z, ?_⟩)
 have hf : H1 s1.heap.objs.size = none := I1.hok.fresh (Nat.le_refl _)
 refine ⟨.ref s1.heap.objs.size, upd H1 s1.heap.objs.size (.lst xs), I1.laid (t' := s1.toks) (fun b u e => Heap.get?_push_of_some _ e) (Nat.le_refl _) ?_, rfl, q _ hf⟩
 exact ⟨z, us, 0, r, Heap.get?_push_size _ rfl⟩
end
abbrev Sp := List V → Hp → VK → XK → Prop
abbrev CXT := List Env → Hp → Shared → XK → Value → Shared → Prop
structure Env0 (P : Program) (w : World) (K : PySem.W.Frag) (mg : Str → Option Value) (base : Heap) (A : Around) (outer : List Env) (s : Shared) (H : Hp) : Prop where
 frames : A.frames = some outer
 mod : Mod K mg base
 bs : ∀ b o, base.get? b = some o → s.heap.get? b = some o ∧ H b = none
 bsz : base.objs.size ≤ s.heap.objs.size
 funs : s.heap.FunFrames base outer
 frf : ∀ b ∈ frs outer, H b = none
 hok : HOk P w H s.heap
 bare : AllBare s.gens
def CE (outer : List Env) (P : Program) (w : World) (H : Hp) (s : Shared) (Q : VK) (u : Value) (s' : Shared) : Prop :=
 ∃ v H', s'.os = s.os ∧ AllBare s'.gens ∧ Un (frs outer) [] H H' s.heap s'.heap ∧ HOk P w H' s'.heap ∧ RelV v u ∧ Q v H'
def CR (CX : CXT) (outer : List Env) (P : Program) (w : World) (H : Hp) (s : Shared) (Q : VK) (E : XK) (r : Result) (s' : Shared) : Prop :=
 match r with
 | .ok (.ret u) => CE outer P w H s Q u s'
 | .ok _ => False
 | .error e => CX outer H s E e s'
structure FnOk (P : Program) (w : World) (K : PySem.W.Frag) (mg : Str → Option Value) (base : Heap) (CX : CXT) (k : Nat) (f : Addr) (fd : FuncData) (ps : List Str) (sp : Sp) : Prop where
 len : ∀ vs H Q E, sp vs H Q E → vs.length = ps.length
 run : ∀ (A : Around) (outer : List Env) (s : Shared) (H : Hp) (args : Args) (us : List Value) (vs : List V) (Q : VK) (E : XK), Room k A → Env0 P w K mg base A outer s H → BindsTo s fd args (ps.zip us) → Vals vs us → sp vs H Q E →
  codeAny (model P w) A (.call (.ref f) args) (CR CX outer P w H s Q E) s
section
variable {X : Cx} {pins : List (Addr × Obj)} {σ : St} {H : Hp} {s s' : Shared}
theorem Inv.env0 (I : Inv X pins σ H s) : Env0 X.prog X.w X.K X.mg X.base X.A X.stack s H :=
 ⟨I.ok.frames, I.ok.mod, I.bs, Nat.le_trans I.ok.bsz I.sz, I.stack, I.stkFree, I.hok, I.bare⟩
theorem Inv.after {Q : VK} {u : Value} (I : Inv X pins σ H s) (h : CE X.stack X.prog X.w H s Q u s') : EP X pins σ Q u s' := by
 obtain ⟨v, H', os, bare, un, hok, r, q⟩ := h
 obtain ⟨hh, g, d, t, os'⟩ := s'
 obtain rfl : os' = s.os := os
 exact ⟨v, H', I.call (h' := hh) (g' := g) (d' := d) (t' := t) (ch := []) un hok bare (fun b z => absurd z (by simp)), r, q⟩
end
def zkf (sp : Sp) (dvs : List V) (E : XK) (t : TA) : TE := fun σ H Q => t σ H fun vs H1 => sp (vs ++ dvs) H1 Q E
def Binds (K : PySem.W.Frag) (fd : FuncData) (ps : List Str) (ds : List Value) : Prop :=
 ∀ (s : Shared) (us : List Value), K.In s.heap → (us ++ ds).length = ps.length → BindsTo s fd ⟨us, []⟩ (ps.zip (us ++ ds))
theorem Binds.all {K : PySem.W.Frag} {fd : FuncData} {ps : List Str} (h : ∀ us : List Value, us.length = ps.length → bindArgs fd ⟨us, []⟩ = pure (ps.zip us)) : Binds K fd ps [] := fun s us _ hl => by
 rw [List.append_nil] at hl ⊢
 exact .of_eq (h us hl)
def zie (CX : CXT) (X : Cx) (E : XK) : Prop := ∀ (pins : List (Addr × Obj)) (σ : St) (H : Hp) (s : Shared) (e : Value) (s' : Shared), Inv X pins σ H s → CX X.stack H s E e s' → X.xe e s'
section
variable {X : Cx} {CX : CXT} {k : Nat} {f C : Addr} {fd : FuncData} {ps : List Str} {sp : Sp} {dvs : List V} {ds : List Value} {E : XK} {x m : Str} {p pos apos : Pos} {e o : Expr} {es : List Expr} {ta : TE} {t : TA}
theorem zi6 {pins : List (Addr × Obj)} {σ : St} {H : Hp} {s : Shared} {Q : VK} {us : List Value} {vs : List V} (F : FnOk X.prog X.w X.K X.mg X.base CX k f fd ps sp) (hr : Room k X.A) (hb : Binds X.K fd ps ds) (hd : Vals dvs ds) (hx : zie CX X E)
 (I : Inv X pins σ H s) (r : Vals vs us) (h : sp (vs ++ dvs) H Q E) : wpAny (model X.prog X.w) X.A (call (.ref f) us) (EP X pins σ Q) X.xe s := by
 have r2 : Vals (vs ++ dvs) (us ++ ds) := r.append hd
 have hl : (us ++ ds).length = ps.length := by rw [← r2.length]; exact F.len _ _ _ _ h
 refine wpAny_call (codeAny_mono (F.run X.A X.stack s H ⟨us, []⟩ (us ++ ds) (vs ++ dvs) Q E hr I.env0 (hb s us I.kIn hl) r2 h) fun r s' hq => ?_)
 cases r with
 | error e => exact hx pins σ H s e s' I hq
 | ok fl =>
  cases fl with
  | ret u => exact I.after hq
  | next => exact False.elim hq
  | brk => exact False.elim hq
  | cont => exact False.elim hq
theorem zjI (F : FnOk X.prog X.w X.K X.mg X.base CX k f fd ps sp) (hr : Room k X.A) (hg : Gl X x) (hm : X.mg x = some (.ref f)) (hk : PySem.W.keepIn X.K (.ref f) = true) (hb : Binds X.K fd ps ds) (hd : Vals dvs ds) (hx : zie CX X E)
 (ha : PA X (e :: es) t) (hdb : (x == ("__debug__" : Str)) = false := by decide) (he : starEach (e :: es) X.env = (false, eval e X.env) :: starEach es X.env := by rfl) (hpl : (backTo pos (starEach es X.env)).any (·.1) = false := by rfl) :
 PE X (.Call (.Name x p) (e :: es) [] pos) (zkf sp dvs E t) := by
 intro pins s σ H Q I h
 refine wpAny_Call_Name_kw (zhH I hg hm ?_ hdb)
 refine PySem.W.callWith_K (h₀ := X.base) I.ok.mod.kin hk (thn (ha pos pins s σ H _ I h) fun us s1 ⟨vs, H1, I1, r, q⟩ => ⟨I1.kIn, ?_⟩) he hpl
 exact zi6 F hr hb hd hx I1 r q
end
def PK (X : Cx) (kws : List Keyword) (t : TA) : Prop :=
 ∀ (pos : Pos) (pins : List (Addr × Obj)) (s : Shared) (σ : St) (H : Hp) (Q : List V → Hp → Prop), Inv X pins σ H s → t σ H Q → wpAny (model X.prog X.w) X.A (evalAll ((backToKw pos (keywordEach kws X.env)).map (·.2))) (AP X pins σ Q) X.xe s
section
variable {X : Cx} {CX : CXT} {k : Nat} {f C : Addr} {fd : FuncData} {ps ks : List Str} {sp : Sp} {E : XK} {x m : Str} {p pos apos kpos : Pos} {e o : Expr} {es : List Expr} {kws : List Keyword} {te ta : TE} {t tk : TA} {nm : Option Str}
theorem zko : PK X [] tNil := fun _ _ _ _ H Q I h => wpAny_evalAll_nil ⟨[], H, I, .nil, h⟩
theorem zjG (ha : PE X e te) (hr : PK X kws t) : PK X (⟨nm, e, kpos⟩ :: kws) (zke te t) := by
 intro pos pins s σ H Q I h
 show wpAny _ _ (evalAll ((do let v ← eval e X.env; standAt pos; pure v) :: (backToKw pos (keywordEach kws X.env)).map (·.2))) _ _ s
 refine wpAny_evalAll_cons (wpAny_bind (thn (ha pins s σ H _ I h) fun u s1 ⟨x, H1, I1, r1, q1⟩ => wpAny_bind (wpAny_standAt (wpAny_pure ?_))))
 exact thn (hr pos pins s1 σ H1 _ I1 q1) fun us s2 ⟨xs, H2, I2, r2, q2⟩ => ⟨x :: xs, H2, I2, .cons r1 r2, q2⟩
variable {g : List Value → List Value → List Value} {gV : List V → List V → List V}
end
structure FnScope (N P : List Str) (sc : Scope) : Prop where
 kind : sc.kind = .function
 co : sc.isCoroutine = false
 gen : sc.isGenerator = false
 nd : N.Nodup
 pre : N.take P.length = P
 par : ∀ x ∈ P, sc.names.lookup x = some .local ∨ sc.names.lookup x = some .cell
 nofree : ∀ y ∈ sc.names, y.2 ≠ .free
theorem ze7 {kindOf : Str → Option NameKind} {x : Str} : ∀ {binds : List (Str × Value)} {m : Str → Option Value}, (∀ v, (x, v) ∉ binds) → bindL kindOf binds m x = m x
 | [], _, _ => rfl
 | (n, v) :: r, m, h => by
  unfold bindL
  rw [ze7 fun w hw => h w (List.mem_cons_of_mem _ hw)]
  split
  · have : x ≠ n := by rintro rfl; exact h v List.mem_cons_self
    simp [this]
  · rfl
theorem ze9 {kindOf : Str → Option NameKind} {x : Str} : ∀ {binds : List (Str × Value)} {m : Str → Option Value}, (∀ v, (x, v) ∉ binds) → bindC kindOf binds m x = m x
 | [], _, _ => rfl
 | (n, v) :: r, m, h => by
  unfold bindC
  rw [ze9 fun w hw => h w (List.mem_cons_of_mem _ hw)]
  split
  · rfl
  · have : x ≠ n := by rintro rfl; exact h v List.mem_cons_self
    simp [this]
theorem ze8 {kindOf : Str → Option NameKind} {x : Str} {v : Value} : ∀ {P : List Str} {vs : List Value} {i : Nat} {m : Str → Option Value}, P.Nodup → P[i]? = some x → vs[i]? = some v → kindOf x = some .local →
 bindL kindOf (P.zip vs) m x = some v
 | [], _, _, _, _, h, _, _ => by simp at h
 | _ :: _, [], _, _, _, _, h, _ => by simp at h
 | p :: P, w :: vs, 0, m, nd, h1, h2, hk => by
  simp at h1 h2; subst h1; subst h2
  show bindL kindOf ((p, w) :: P.zip vs) m p = _
  unfold bindL
  rw [ze7 fun v hv => (List.nodup_cons.mp nd).1 (List.of_mem_zip hv).1, if_pos hk]
  simp
 | p :: P, w :: vs, i + 1, m, nd, h1, h2, hk => by
  show bindL kindOf ((p, w) :: P.zip vs) m x = _
  unfold bindL
  exact ze8 (i := i) (List.nodup_cons.mp nd).2 (by simpa using h1) (by simpa using h2) hk
theorem zfa {kindOf : Str → Option NameKind} {x : Str} {v : Value} : ∀ {P : List Str} {vs : List Value} {i : Nat} {m : Str → Option Value}, P.Nodup → P[i]? = some x → vs[i]? = some v → kindOf x ≠ some .local →
 bindC kindOf (P.zip vs) m x = some v
 | [], _, _, _, _, h, _, _ => by simp at h
 | _ :: _, [], _, _, _, _, h, _ => by simp at h
 | p :: P, w :: vs, 0, m, nd, h1, h2, hk => by
  simp at h1 h2; subst h1; subst h2
  show bindC kindOf ((p, w) :: P.zip vs) m p = _
  unfold bindC
  rw [ze9 fun v hv => (List.nodup_cons.mp nd).1 (List.of_mem_zip hv).1, if_neg hk]
  simp
 | p :: P, w :: vs, i + 1, m, nd, h1, h2, hk => by
  show bindC kindOf ((p, w) :: P.zip vs) m x = _
  unfold bindC
  exact zfa (i := i) (List.nodup_cons.mp nd).2 (by simpa using h1) (by simpa using h2) hk
def zeF (N : List Str) (vs : List V) : St := vs.map some ++ List.replicate (N.length - vs.length) none
def cxOf (CX : CXT) (P : Program) (w : World) (K : PySem.W.Frag) (mg : Str → Option Value) (base : Heap) (N : List Str) (qual : Str) (scope : Scope) (f : Addr) (cd : Value) (A : Around) (outer : List Env) (s : Shared) (H : Hp) (E : XK) : Cx where
 prog := P
 w := w
 K := K
 mg := mg
 base := base
 A := A.deeper (envOfC qual scope s.heap.objs.size f cd)
 N := N
 s₀ := s
 H₀ := H
 env := envOfC qual scope s.heap.objs.size f cd
 outer := outer
 stack := envOfC qual scope s.heap.objs.size f cd :: outer
 ex := []
 calm := true
 fn := fun _ => true
 pn := []
 xe := fun e s' => wpAny (model P w) (A.deeper (envOfC qual scope s.heap.objs.size f cd)) (leaving (envOfC qual scope s.heap.objs.size f cd) e) (fun _ s'' => CX outer H s E e s'') (fun e' s'' => CX outer H s E e' s'') s'
theorem zgq {sc : Scope} {n : Nat} {x : Str} (h : sc.names.lookup x = some .cell) : ∃ c, (cellsFrom n sc.names []).lookup x = some c := by
 have q := PySem.W.cellsFrom_some sc.names n [] (.inl h)
 exact Option.isSome_iff_exists.mp q
theorem zhQ {CX : CXT} {P : Program} {w : World} {K : PySem.W.Frag} {mg : Str → Option Value} {base : Heap} {N ps : List Str} {qual : Str} {scope : Scope} {f : Addr} {cd : Value} {A : Around} {outer : List Env} {s s1 : Shared} {H : Hp} {E : XK} {us : List Value} {vs : List V}
 (S : FnScope N ps scope) (hd : A.handled = none) (e0 : Env0 P w K mg base A outer s H) (hl : vs.length = ps.length) (r : Vals vs us)
 (x : InCallC s s.heap.objs.size (bindL (envOfC qual scope s.heap.objs.size f cd).kindOf (ps.zip us) fun _ => none) (cellsFrom (s.heap.objs.size + 1) scope.names []) (bindC (envOfC qual scope s.heap.objs.size f cd).kindOf (ps.zip us) fun _ => none) s1) :
 Inv (cxOf CX P w K mg base N qual scope f cd A outer s H E) [] (zeF N vs) H s1 := by
 have hpl : ps.length ≤ N.length := by have := congrArg List.length S.pre; rw [List.length_take] at this; omega
 obtain ⟨h1, tk, rfl, hk⟩ := x.done
 have noA : ∀ b : Addr, b ∉ (cxOf CX P w K mg base N qual scope f cd A outer s H E).ex := fun b z => absurd (show b ∈ ([] : List Addr) from z) (by simp)
 refine ⟨⟨e0.mod, S.kind, rfl, rfl, Nat.le_refl _, fun y z c h1 h2 => ?_, fun y hy => ?_, fun y c _ h => ?_, fun _ => hd, Around.frames_deeper e0.frames, .inr ⟨rfl, rfl⟩, fun b z => absurd z (noA b), e0.bs, e0.bsz, fun b _ _ => noA b, fun b z => absurd z (noA b), e0.funs, e0.frf⟩,
  rfl, e0.bare, Un.kept hk, ⟨_, x.toInCall.ns, fun i y v h1 h2 h3 => ?_⟩, fun y c h => ⟨_, x.cell y c h⟩, e0.hok.fresh (Nat.le_refl _), fun y c h => ?_, fun p hp => absurd (show p ∈ ([] : List (Addr × Obj)) from hp) (by simp), e0.hok.kept hk, ?_⟩
 · exact name_of_addr x.apart (PySem.mem_of_lookup h1) (PySem.mem_of_lookup h2)
 · have hy : scope.names.lookup y = some .cell ∨ scope.names.lookup y = some .free := hy
   rcases hy with hy | hy
   · exact zgq hy
   · exact absurd rfl (S.nofree _ (PySem.mem_of_lookup hy))
 · exact Nat.le_of_lt (x.above y c (PySem.mem_of_lookup h))
 · have hi : i < vs.length := by
    unfold zeF at h2
    by_cases hi : i < vs.length
    · exact hi
    · rw [List.getElem?_append_right (by simpa using hi)] at h2
      rw [List.getElem?_replicate] at h2
      split at h2 <;> cases h2
   have ha : vs[i]? = some v := by
    unfold zeF at h2
    rw [List.getElem?_append_left (by simpa using hi), List.getElem?_map] at h2
    cases e : vs[i]? with
    | none => rw [e] at h2; cases h2
    | some a => rw [e] at h2; cases h2; rfl
   obtain ⟨u, hu, rv⟩ := r.get ha
   have hp : ps[i]? = some y := by
    rw [← S.pre, List.getElem?_take_of_lt (by omega)]; exact h1
   have ndP : ps.Nodup := by rw [← S.pre]; exact S.nd.sublist (List.take_sublist _ _)
   refine ⟨u, rv, ?_⟩
   rcases S.par y (List.mem_of_getElem? hp) with k | k
   · exact .inl ⟨k, ze8 ndP hp hu k⟩
   · obtain ⟨c, e⟩ := zgq (n := s.heap.objs.size + 1) k
     refine .inr ⟨.inl k, c, e, ?_⟩
     have q := x.cell y c e
     rw [zfa ndP hp hu (by show scope.names.lookup y ≠ _; rw [k]; decide)] at q
     exact q
 · exact e0.hok.fresh (Nat.le_of_lt (x.above y c (PySem.mem_of_lookup h)))
 · unfold zeF
   show _ = N.length
   rw [List.length_append, List.length_map, List.length_replicate]
   omega
theorem zlg {CX : CXT} {P : Program} {w : World} {K : PySem.W.Frag} {mg : Str → Option Value} {base : Heap} {k : Nat} {f : Addr} {name qual : Str} {params : Arguments} {body : List Stmt} {scope : Scope} {dV kV doc pm cdv ct oc : Value} {an od : Option Addr}
 {osl : Array (Option Value)} {N ps : List Str} {sp : Sp} (lk : K.lookup f = some ⟨oc, od, .func (PySem.W.fnOf name qual params body scope dV kV doc pm an cdv ct), osl⟩) (hcd : PySem.W.codeIn K cdv qual = true) (S : FnScope N ps scope)
 (len : ∀ vs H Q E, sp vs H Q E → vs.length = ps.length)
 (hbody : ∀ (A : Around) (outer : List Env) (s : Shared) (H : Hp) (vs : List V) (Q : VK) (E : XK), Room k (A.deeper (envOfC qual scope s.heap.objs.size f cdv)) → sp vs H Q E →
  ∃ t, PSs (cxOf CX P w K mg base N qual scope f cdv A outer s H E) body t ∧ t { nx := fun _ H' => Q .non H', rt := Q } (zeF N vs) H) :
 FnOk P w K mg base CX (k + 1) f (PySem.W.fnOf name qual params body scope dV kV doc pm an cdv ct) ps sp := by
 refine ⟨len, fun A outer s H args us vs Q E hr e0 hb r hsp => ?_⟩
 have hl := len _ _ _ _ hsp
 have KX : K.In s.heap := e0.mod.kin.keeps fun b o e => (e0.bs b o e).1
 have lim : s.heap.NoLimit := e0.mod.nolimit.keeps fun b o e => (e0.bs b o e).1
 have hkind : ∀ y ∈ ps.zip us, scope.names.lookup y.1 = some .local ∨ (scope.names.lookup y.1 = some .cell ∧ ((cellsFrom (s.heap.objs.size + 1) scope.names []).lookup y.1).isSome = true) := fun ⟨n, v⟩ hy => by
  rcases S.par n (List.of_mem_zip hy).1 with q | q
  · exact .inl q
  · exact .inr ⟨q, PySem.W.cellsFrom_some _ _ _ (.inl q)⟩
 refine codeAny_call_function hr.depth (KX _ _ lk) rfl S.co S.gen rfl (PySem.W.codeRec_of KX hcd) (hb _ _ _ _ ?_)
 refine wpAny_newFunctionEnv_cells S.kind hkind fun env he s1 x => ?_
 subst he
 refine ⟨lim.keeps x.toInCall.keep, codeAny_func ?_⟩
 obtain ⟨t, ht, hq⟩ := hbody A outer s H vs Q E (hr.deeper _) hsp
 have I : Inv (cxOf CX P w K mg base N qual scope f cdv A outer s H E) [] (zeF N vs) H s1 := zhQ S hr.hd e0 hl r x
 refine wpAny_mono (ht [] s1 (zeF N vs) H _ I hq) (fun fl s' hs => ?_) fun e s' hs => hs
 have fin : ∀ {σ' : St} {H' : Hp} {v : V} {u : Value}, Inv (cxOf CX P w K mg base N qual scope f cdv A outer s H E) [] σ' H' s' → RelV v u → Q v H' → CE outer P w H s Q u s' :=
  fun {σ' H' v u} J rv q => ⟨v, H', J.os, J.bare, J.base, J.hok, rv, q⟩
 cases fl with
 | ret u =>
  obtain ⟨v, σ', H', J, rv, q⟩ := hs
  exact fin J rv q
 | next =>
  obtain ⟨σ', H', J, q⟩ := hs
  exact fin (v := V.non) (u := Value.none) J rfl q
 | brk =>
  obtain ⟨_, _, _, q⟩ := hs
  exact False.elim q
 | cont =>
  obtain ⟨_, _, _, q⟩ := hs
  exact False.elim q
section
variable {X : Cx} {x : Str} {p pos : Pos} {e : Expr} {es : List Expr} {t : TA} {id T : String} {r : List V → Hp → VK → Prop}
def tCB (r : List V → Hp → VK → Prop) (t : TA) : TE := fun σ H Q => t σ H fun vs H1 => r vs H1 Q
theorem zai (hc : zc0 X (.builtin id) r) (hg : Gl X x) (hm : X.mg x = none) (hv : bootBuiltins x = some (.builtin id)) (ha : PA X (e :: es) t) (hn : x ≠ "__name__" := by decide) (hdb : (x == ("__debug__" : Str)) = false := by decide)
 (he : starEach (e :: es) X.env = (false, eval e X.env) :: starEach es X.env := by rfl) (hpl : (backTo pos (starEach es X.env)).any (·.1) = false := by rfl) : PE X (.Call (.Name x p) (e :: es) [] pos) (tCB r t) := by
 intro pins s σ H Q I h
 refine wpAny_Call_Name_kw (zdS I hg hm hv ?_ hn hdb)
 exact PyProof.Rows.callWith_builtin1 (thn (ha pos pins s σ H _ I h) fun us s1 ⟨vs, H1, I1, r1, q1⟩ => hc pins s1 σ H1 vs us Q I1 r1 q1) he hpl
theorem zcG (hc : zc0 X (.type T) r) (hg : Gl X x) (hm : X.mg x = none) (hv : bootBuiltins x = some (.type T)) (ha : PA X (e :: es) t) (hn : x ≠ "__name__" := by decide) (hdb : (x == ("__debug__" : Str)) = false := by decide)
 (he : starEach (e :: es) X.env = (false, eval e X.env) :: starEach es X.env := by rfl) (hpl : (backTo pos (starEach es X.env)).any (·.1) = false := by rfl) : PE X (.Call (.Name x p) (e :: es) [] pos) (tCB r t) := by
 intro pins s σ H Q I h
 refine wpAny_Call_Name_kw (zdS I hg hm hv ?_ hn hdb)
 exact PyProof.Rows.callWith_type1 (thn (ha pos pins s σ H _ I h) fun us s1 ⟨vs, H1, I1, r1, q1⟩ => hc pins s1 σ H1 vs us Q I1 r1 q1) he hpl
end
end L2
namespace HT
open PySem PyProof.Rows
section
open PySem.SeqAt
open PySem.AutoSeq1 (wpAny_loadPart')
open PySem.MeetsSeq PySem.MeetsSeq2 PySem.MeetsSeq3
end
section
variable {prog : Program} {w : World} {A : Around} {E : Value → Shared → Prop} {s : Shared}
theorem cat_tup {t b : Addr} {vs ws : List Value} {Q : Value → Shared → Prop} (ht : IsTup s.heap t vs.toArray) (hb : IsTup s.heap b ws.toArray) (hv : vs ≠ [])
 (h1 : ws = [] → Q (.ref t) s) (h2 : ws ≠ [] → Q (.ref s.heap.objs.size) { s with heap := s.heap.push { cls := .type "tuple", data := .seq (vs ++ ws).toArray } })
 (hsz : vs.length + ws.length ≤ sizeLine) : wpAny (model prog w) A (binaryOp .Add (.ref t) (.ref b)) Q E s := by
 obtain ⟨⟨cls, dd, data, sl⟩, ho, hc, n, hd⟩ := id ht
 obtain ⟨⟨cls2, dd2, data2, sl2⟩, ho2, hc2, n2, hd2⟩ := id hb
 simp only at hc hd hc2 hd2
 subst hc hd hc2 hd2
 have e : vs.toArray ++ ws.toArray = (vs ++ ws).toArray := by simp
 by_cases hw : ws = []
 · exact concat_meets ⟨_, ho, rfl⟩ ⟨_, ho2, rfl⟩ noFill_tuple_add seq_tuple_add PySem.F.slot_tuple_add PySem.F.entry_tuple_add (PySem.F.args_tuple_add_2 _ _)
    (tuple_addW1 t b vs.toArray ws.toArray n n2 dd dd2 sl sl2 (by simpa using hv) (by simp [hw])) ⟨ho, ho2, h1 hw⟩
 · refine concat_meets ⟨_, ho, rfl⟩ ⟨_, ho2, rfl⟩ noFill_tuple_add seq_tuple_add PySem.F.slot_tuple_add PySem.F.entry_tuple_add (PySem.F.args_tuple_add_2 _ _)
    (tuple_addW2 t b vs.toArray ws.toArray n n2 dd dd2 sl sl2 (by simpa using hv) (by simpa using hw) (by rw [List.size_toArray, List.size_toArray]; exact hsz)) ⟨ho, ho2, ?_⟩
   rw [e]
   exact h2 hw
def sIx (n d : Nat) : Option Int → Nat
 | none => d
 | some v => if v < 0 then (v + (n : Int)).toNat else min v.toNat n
theorem sIx_none (n d : Nat) : sIx n d none = d := rfl
theorem sIx_nat (n d k : Nat) : sIx n d (some (k : Int)) = min k n := by
 show (if (k : Int) < 0 then ((k : Int) + (n : Int)).toNat else min (k : Int).toNat n) = min k n
 rw [if_neg (by omega), Int.toNat_natCast]
theorem zkj (n d : Nat) (hd : d ≤ n) (o : Option Int) : sIx n d o ≤ n := by
 cases o with
 | none => exact hd
 | some v =>
  show (if v < 0 then (v + (n : Int)).toNat else min v.toNat n) ≤ n
  by_cases hv : v < 0
  · rw [if_pos hv]; omega
  · rw [if_neg hv]; exact Nat.min_le_right _ _
theorem zh9 (v : Int) (n d : Nat) : (if v < 0 then max (v + (n : Int)) 0 else min v (n : Int)) = ((sIx n d (some v) : Nat) : Int) := by
 show (if v < 0 then max (v + (n : Int)) 0 else min v (n : Int)) = (((if v < 0 then (v + (n : Int)).toNat else min v.toNat n) : Nat) : Int)
 by_cases hv : v < 0
 · simp only [if_pos hv]; omega
 · simp only [if_neg hv]; omega
theorem zgR (lo hi : Option Int) (n : Nat) : Builtin.Slice.sliceAdjust lo hi 1 (n : Int) = (((sIx n 0 lo : Nat) : Int), ((sIx n n hi : Nat) : Int)) := by
 have h1 : ¬ ((1 : Int) < 0) := by omega
 unfold Builtin.Slice.sliceAdjust
 simp only [h1, if_false]
 refine Prod.ext ?_ ?_
 · cases lo with
   | none => rfl
   | some v => exact zh9 v n 0
 · cases hi with
   | none => rfl
   | some v => exact zh9 v n n
theorem zgB (i j : Nat) : Builtin.Slice.slicePlaces (i : Int) (j : Int) 1 = j - i := by
 unfold Builtin.Slice.slicePlaces
 have h1 : (1 : Int) > 0 := by omega
 simp only [h1, if_true, Int.ediv_one]
 split <;> omega
theorem zdP {v : Value} {o : Option Int} {Q : Option Int → Shared → Prop} (p : IsPart v o) (h : Q o s) : wpAny (model prog w) A (Builtin.Slice.slicePartIndex v) Q E s := by
 cases p with
 | none => exact slicePart_none h
 | int i t => exact slicePart_int h
theorem sliceApplied_gen {sl : Addr} {vl vu : Value} {lo hi : Option Int} {n : Nat} {Q : Int × Int × Nat → Shared → Prop} (hs : s.heap.IsSliceOf sl vl vu .none) (pl : IsPart vl lo) (pu : IsPart vu hi)
 (h : Q (((sIx n 0 lo : Nat) : Int), 1, sIx n n hi - sIx n 0 lo) s) : wpAny (model prog w) A (Builtin.Slice.sliceApplied (.ref sl) (pure (n : Int))) Q E s := by
 obtain ⟨os, hos, hcs, hds⟩ := id hs
 unfold Builtin.Slice.sliceApplied Builtin.Slice.sliceFields
 refine wpAny_bind (wpAny_bind (wpAny_field hos hds (x := vl) rfl (wpAny_bind (wpAny_field hos hds (x := vu) rfl (wpAny_bind (wpAny_field hos hds (x := .none) rfl (wpAny_pure ?_)))))))
 refine wpAny_bind (slicePart_none ?_)
 show wpAny _ _ (if ((1 : Int) == 0) = true then _ else _) _ _ s
 rw [if_neg (by decide)]
 refine wpAny_bind (zdP pl (wpAny_bind (zdP pu (wpAny_bind (wpAny_pure ?_)))))
 show wpAny _ _ (match Builtin.Slice.sliceAdjust lo hi 1 (n : Int) with | (lo, hi) => pure (lo, (1 : Int), Builtin.Slice.slicePlaces lo hi 1)) _ _ s
 rw [zgR lo hi n]
 show wpAny _ _ (pure (((sIx n 0 lo : Nat) : Int), (1 : Int), Builtin.Slice.slicePlaces ((sIx n 0 lo : Nat) : Int) ((sIx n n hi : Nat) : Int) 1)) _ _ s
 rw [zgB]
 exact wpAny_pure h
theorem ziD (xs : Array Value) (i k : Nat) : ((List.range k).filterMap fun (m : Nat) => xs[((i : Int) + (m : Int) * 1).toNat]?).toArray = ((xs.toList.drop i).take k).toArray := by
 have e : (fun (m : Nat) => xs[((i : Int) + (m : Int) * 1).toNat]?) = fun m => xs[i + m]? := by
  funext m
  have : ((i : Int) + (m : Int) * 1).toNat = i + m := by omega
  rw [this]
 rw [e]
 have := pick_run xs i k
 rw [List.filterMap_map] at this
 have e2 : ((fun x => xs[x]?) ∘ fun x => i + x) = fun m => xs[i + m]? := rfl
 rw [e2] at this
 rw [this]
theorem getItem_tuple_cut {t sl : Addr} {items : Array Value} {vl vu : Value} {lo hi : Option Int} {Q : Value → Shared → Prop} (ht : IsTup s.heap t items) (hs : s.heap.IsSliceOf sl vl vu .none) (pl : IsPart vl lo) (pu : IsPart vu hi)
 (hw : ¬ (sIx items.size 0 lo = 0 ∧ sIx items.size items.size hi = items.size))
 (h : Q (.ref s.heap.objs.size) { s with heap := s.heap.push { cls := .type "tuple", data := .seq ((items.toList.drop (sIx items.size 0 lo)).take (sIx items.size items.size hi - sIx items.size 0 lo)).toArray } })
 (hsz : items.size ≤ sizeLine) : wpAny (model prog w) A (getItem (.ref t) (.ref sl)) Q E s := by
 have htake : sizeOk (.seq ((items.toList.drop (sIx items.size 0 lo)).take (sIx items.size items.size hi - sIx items.size 0 lo)).toArray) := by
  show ((items.toList.drop (sIx items.size 0 lo)).take (sIx items.size items.size hi - sIx items.size 0 lo)).toArray.size ≤ sizeLine
  rw [List.size_toArray, List.length_take, List.length_drop, Array.length_toList]
  omega
 have hj : sIx items.size items.size hi ≤ items.size := zkj _ _ (Nat.le_refl _) hi
 obtain ⟨os, hos, hcs, hds⟩ := id hs
 have hTs : s.TypeIs (.ref sl) "slice" := ⟨os, hos, hcs⟩
 unfold getItem
 try with_reducible refine wpAny_holding ?_
 first | refine wpAny_bind (wpAny_pure ?_) | skip
 refine wpAny_bind (wpAny_sequenceKey ht.typeIs (by decide) ?_)
 refine wpAny_bind (wpAny_callSpecial?_slot (name := Str.ofString "__getitem__") ht.typeIs PyProof.Rows.slot_tuple_getitem
  (wpAny_call_entry PyProof.Rows.slot_tuple_getitem ht.typeIs entry_tuple_getitem ?_ (args_tuple_getitem _ _)))
 show wpAny _ _ (Builtin.Tuple.tupleItemsOf (.ref t) >>= _) _ _ s
 refine wpAny_bind (tupleItemsOf_ ht ?_)
 refine wpAny_bind (wpAny_typeOf hTs ?_)
 rw [if_pos (by decide)]
 refine wpAny_bind (sliceApplied_gen hs pl pu ?_)
 have hno : ¬ ((((sIx items.size 0 lo : Nat) : Int) == 0 && (1 : Int) == 1 && (sIx items.size items.size hi - sIx items.size 0 lo) == items.size) = true) := by
  intro q
  rw [Bool.and_eq_true, Bool.and_eq_true] at q
  have q1 : ((sIx items.size 0 lo : Nat) : Int) = 0 := eq_of_beq q.1.1
  have q2 : sIx items.size items.size hi - sIx items.size 0 lo = items.size := eq_of_beq q.2
  exact hw ⟨by omega, by omega⟩
 show wpAny _ _ (if (((sIx items.size 0 lo : Nat) : Int) == 0 && (1 : Int) == 1 && (sIx items.size items.size hi - sIx items.size 0 lo) == items.size) = true then _ else _) _ _ s
 rw [if_neg hno, ziD]
 first
  | exact wpAny_bind (m := Builtin.Tuple.tupleExact _) (wpAny_newObj_type (wpAny_pure ⟨_, rfl, wpAny_pure h⟩) htake)
  | exact wpAny_bind (m := Builtin.Tuple.tupleExact _) (wpAny_newObj_type (wpAny_bind (wpAny_pure (wpAny_pure ⟨_, rfl, wpAny_pure h⟩))) htake)
  | exact wpAny_bind (wpAny_bind (m := Builtin.Tuple.tupleExact _) (wpAny_newObj_type (wpAny_pure (wpAny_pure ⟨_, rfl, wpAny_pure h⟩)) htake))
  | exact wpAny_bind (wpAny_bind (m := Builtin.Tuple.tupleExact _) (wpAny_newObj_type (wpAny_pure ⟨_, rfl, wpAny_pure h⟩) htake))
end
end HT
namespace L2
open PySem PySem.Spec PyProof.Rows
abbrev TO := St → Hp → (Option Int → Hp → Prop) → Prop
def PO (X : Cx) (e : Option Expr) (t : TO) : Prop :=
 ∀ (pins : List (Addr × Obj)) (s : Shared) (σ : St) (H : Hp) (Q : Option Int → Hp → Prop), Inv X pins σ H s → t σ H Q →
  wpAny (model X.prog X.w) X.A (evalPart e X.env) (fun u s' => ∃ o H', Inv X pins σ H' s' ∧ IsPart u o ∧ Q o H') X.xe s
def zgV : TO := fun _ H Q => Q none H
def zk1 (t : TE) : TO := fun σ H Q => t σ H fun x H1 => ∃ i, x = .int i ∧ Q (some i) H1
section
variable {X : Cx} {e : Expr} {te : TE} {lo hi : Option Expr} {tl th : TO} {pos p2 : Pos}
theorem zb7 : PO X none zgV := by
 intro pins s σ H Q I h
 rw [evalPart_none]
 exact wpAny_pure ⟨none, H, I, .none, h⟩
theorem zb6 (h : PE X e te) : PO X (some e) (zk1 te) := by
 intro pins s σ H Q I hw
 rw [evalPart_some]
 refine thn (h pins s σ H _ I hw) fun u s1 ⟨x, H1, I1, r1, q1⟩ => ?_
 obtain ⟨i, rfl, q⟩ := q1
 obtain ⟨t, rfl⟩ := r1
 exact ⟨some i, H1, I1, .int i t, q⟩
def SlR (X : Cx) (r : V → Option Int → Option Int → Hp → VK → Prop) : Prop :=
 ∀ (pins : List (Addr × Obj)) (s : Shared) (σ : St) (H : Hp) (x : V) (v vl vu : Value) (lo hi : Option Int) (sl : Addr) (Q : VK), Inv X pins σ H s → RelV x v → s.heap.IsSliceOf sl vl vu .none → IsPart vl lo → IsPart vu hi → r x lo hi H Q →
  ∃ T id, typeLookup (.type T) "__getitem__" = pure (some (.builtin id)) ∧ s.TypeIs v T ∧ wpAny (model X.prog X.w) X.A (getItem v (.ref sl)) (EP X pins σ Q) X.xe s
def tSl (r : V → Option Int → Option Int → Hp → VK → Prop) (te : TE) (tl th : TO) : TE := fun σ H Q => te σ H fun x H1 => tl σ H1 fun l H2 => th σ H2 fun u H3 => r x l u H3 Q
theorem zbF {r : V → Option Int → Option Int → Hp → VK → Prop} (hr : SlR X r) (he : PE X e te) (hl : PO X lo tl) (hu : PO X hi th) : PE X (.Subscript e (.Slice lo hi none p2) pos) (tSl r te tl th) := by
 intro pins s σ H Q I h
 refine Subscript_ (thn (he pins s σ H _ I h) fun v s1 ⟨x, H1, I1, r1, q1⟩ => ?_)
 refine wpAny_Slice (thn (hl pins s1 σ H1 _ I1 q1) fun vl s2 ⟨l, H2, I2, pl, q2⟩ => thn (hu pins s2 σ H2 _ I2 q2) fun vu s3 ⟨u, H3, I3, pu, q3⟩ => ?_)
 rw [evalPart_none]
 refine wpAny_pure ?_
 have I4 : Inv X pins σ H3 { s3 with heap := s3.heap.push { cls := .type "slice", data := .fields #[vl, vu, .none] } } := I3.kept (t' := s3.toks) fun b ob q => Heap.get?_push_of_some _ q
 obtain ⟨T, id, hT, ht, hg⟩ := hr pins { s3 with heap := s3.heap.push { cls := .type "slice", data := .fields #[vl, vu, .none] } } σ H3 x v vl vu l u s3.heap.objs.size Q I4 r1 (Heap.IsSliceOf.new ..) pl pu q3
 show wpAny (model X.prog X.w) X.A (subscriptTail e (.Slice lo hi none p2) v (.ref s3.heap.objs.size)) (EP X pins σ Q) X.xe { s3 with heap := s3.heap.push { cls := .type "slice", data := .fields #[vl, vu, .none] } }
 exact tail_any (ops := [.ref s3.heap.objs.size, v]) ht hT hg (by with_unfolding_all rfl)
def cutV (xs : List V) (lo hi : Option Int) : List V := (xs.drop (HT.sIx xs.length 0 lo)).take (HT.sIx xs.length xs.length hi - HT.sIx xs.length 0 lo)
theorem zdI (xs : List V) (lo hi : Option Int) : (cutV xs lo hi).length ≤ xs.length := by
 unfold cutV
 rw [List.length_take, List.length_drop]
 omega
def rSlT (K : PySem.W.Frag) : V → Option Int → Option Int → Hp → VK → Prop := fun x lo hi H Q => ∃ a xs, x = .ref a ∧ SqT K H a xs ∧
 ¬ (HT.sIx xs.length 0 lo = 0 ∧ HT.sIx xs.length xs.length hi = xs.length) ∧ ∀ p, H p = none → Q (.ref p) (upd H p (.tup (cutV xs lo hi)))
theorem zkh : SlR X (rSlT X.K) := by
 intro pins s σ H x v vl vu lo hi sl Q I rx hs pl pu h
 obtain ⟨a, xs, rfl, hx, hw, q⟩ := h
 cases rx
 obtain ⟨its, r, ht, hz⟩ := I.tuple hx
 have hlen : its.toArray.size = xs.length := by rw [List.size_toArray]; exact r.length.symm
 refine ⟨"tuple", _, PyProof.Rows.slot_tuple_getitem.lookup, ht.typeIs, ?_⟩
 refine HT.getItem_tuple_cut ht hs pl pu (by rw [hlen]; exact hw) ?_ (by rw [hlen]; exact hz)
 rw [hlen]
 refine ⟨.ref s.heap.objs.size, _, I.laid (t' := s.toks) (o := .tup (cutV xs lo hi)) (fun b ob q => Heap.get?_push_of_some _ q) (Nat.le_refl _) ?_, rfl, q _ (I.hok.fresh (Nat.le_refl _))⟩
 exact ⟨Nat.le_trans (zdI xs lo hi) hz, _, (r.drop (HT.sIx xs.length 0 lo)).take (HT.sIx xs.length xs.length hi - HT.sIx xs.length 0 lo), IsTupP.new _ _⟩
theorem Vals.nil_iff {xs : List V} {us : List Value} (r : Vals xs us) : us = [] ↔ xs = [] := by
 cases r with
 | nil => simp
 | cons _ _ => simp
end
def ixN (n : Nat) (i : Int) : Option Nat := if 0 ≤ i then (if i < n then some i.toNat else none) else if -(n : Int) ≤ i then some (i + n).toNat else none
def atI {α : Type} (xs : List α) (i : Int) : Option α := (ixN xs.length i).bind fun j => xs[j]?
theorem zfR {n : Nat} {i : Int} {j : Nat} (h : ixN n i = some j) : seqIndex? i n = some j ∧ j < n ∧ -(n : Int) ≤ i ∧ i < n := by
 unfold ixN at h
 by_cases h0 : 0 ≤ i
 · rw [if_pos h0] at h
   by_cases h1 : i < n
   · rw [if_pos h1] at h
     have e : i.toNat = j := Option.some.inj h
     exact ⟨by rw [seqIndex_of h0 h1, e], by omega, by omega, h1⟩
   · rw [if_neg h1] at h; cases h
 · rw [if_neg h0] at h
   by_cases h1 : -(n : Int) ≤ i
   · rw [if_pos h1] at h
     have e : (i + n).toNat = j := Option.some.inj h
     exact ⟨by rw [seqIndex_neg (by omega) h1, e], by omega, h1, by omega⟩
   · rw [if_neg h1] at h; cases h
theorem zf3 {α : Type} {xs : List α} {i : Int} {v : α} (h : atI xs i = some v) : ∃ j, seqIndex? i xs.length = some j ∧ xs[j]? = some v ∧ j < xs.length ∧ -(xs.length : Int) ≤ i ∧ i < xs.length := by
 unfold atI at h
 cases e : ixN xs.length i with
 | none => rw [e] at h; cases h
 | some j =>
  rw [e] at h
  obtain ⟨h1, h2, h3, h4⟩ := zfR e
  exact ⟨j, h1, h, h2, h3, h4⟩
theorem zbX {α : Type} {xs : List α} {j : Nat} {v : α} (h : xs[j]? = some v) : atI xs (j : Int) = some v := by
 have hj : j < xs.length := (List.getElem?_eq_some_iff.mp h).1
 have e : ixN xs.length (j : Int) = some j := by
  unfold ixN
  rw [if_pos (by omega), if_pos (by omega)]; simp
 unfold atI; rw [e]; exact h
def zj5 (b : Expr) : Prop := ∀ o i, subscripted b false o i = operate [o, i] (getItem o i)
def IxR (X : Cx) (r : R2) : Prop :=
 ∀ (value slice : Expr) (pins : List (Addr × Obj)) (s : Shared) (σ : St) (H : Hp) (x y : V) (v u : Value) (Q : VK), Inv X pins σ H s → RelV x v → RelV y u → r x y H Q →
  subscripted slice false v u = operate [v, u] (getItem v u) → wpAny (model X.prog X.w) X.A (subscriptTail value slice v u) (EP X pins σ Q) X.xe s
def MtR (X : Cx) (id : String) (r : V → List V → Hp → VK → Prop) : Prop :=
 ∀ (pins : List (Addr × Obj)) (s : Shared) (σ : St) (H : Hp) (x : V) (xs : List V) (v : Value) (us : List Value) (Q : VK), Inv X pins σ H s → RelV x v → Vals xs us → r x xs H Q →
  wpAny (model X.prog X.w) X.A (call (.builtin id) (v :: us)) (EP X pins σ Q) X.xe s
section
variable {X : Cx} {a b : Expr} {ta tb : TE} {pos : Pos}
theorem zaX {r : R2} (hr : IxR X r) (ha : PE X a ta) (hb : PE X b tb) (hs : zj5 b) : PE X (.Subscript a b pos) (tOp r ta tb) := by
 intro pins s σ H Q I h
 exact Subscript_ (binT ha hb I h fun v u s2 x y H2 I2 rx ry q => hr a b pins s2 σ H2 x y v u Q I2 rx ry q (hs _ _))
def rIxL (K : PySem.W.Frag) : R2 := fun x y H Q => ∃ p xs i v, x = .ref p ∧ y = .int i ∧ SqL K H p xs ∧ atI xs i = some v ∧ Q v H
def rIxT (K : PySem.W.Frag) : R2 := fun x y H Q => ∃ p xs i v, x = .ref p ∧ y = .int i ∧ SqT K H p xs ∧ atI xs i = some v ∧ Q v H
def rIxS : R2 := fun x y H Q => ∃ z i c, x = .str z ∧ y = .int i ∧ z.length ≤ sizeLine ∧ atI z.cps.toList i = some c ∧ Q (.str ⟨#[c]⟩) H
theorem zaJ : IxR X (rIxL X.K) := by
 intro value slice pins s σ H x y v u Q I rx ry h hs
 obtain ⟨p, xs, i, z, rfl, rfl, hq, he, q⟩ := h
 cases rx
 obtain ⟨t, rfl⟩ := ry
 obtain ⟨its, r, pl, hz⟩ := I.list hq
 obtain ⟨j, h1, h2, h3, h4, h5⟩ := zf3 he
 obtain ⟨w, ew, rw'⟩ := r.get h2
 have hl := r.length
 have hn := zdR
 have fin : EP X pins σ Q w s := ⟨z, H, I, rw', q⟩
 by_cases h0 : 0 ≤ i
 · have hj : i.toNat = j := by
    rw [seqIndex_of h0 h5] at h1
    exact Option.some.inj h1
   exact item_listR pl.isList h0 (by omega) (by rw [hj]; simpa using ew) fin hs
 · have hj : (i + (its.toArray.size : Int)).toNat = j := by
    rw [seqIndex_neg (by omega) h4] at h1
    rw [List.size_toArray, ← hl]
    exact Option.some.inj h1
   exact subscriptTail_builtinR (x := w) pl.isList.typeIs slot_list_getitem.lookup
    (wpAny_getItem_list_neg (Q := fun r s' => r = w ∧ EP X pins σ Q r s') pl.isList (by omega) (by rw [List.size_toArray] <;> omega) (by omega) (by rw [hj]; simpa using ew) ⟨rfl, fin⟩) hs
theorem zcJ : IxR X (rIxT X.K) := by
 intro value slice pins s σ H x y v u Q I rx ry h hs
 obtain ⟨p, xs, i, z, rfl, rfl, hq, he, q⟩ := h
 cases rx
 obtain ⟨t, rfl⟩ := ry
 obtain ⟨its, r, pl, hz⟩ := I.tuple hq
 obtain ⟨j, h1, h2, h3, h4, h5⟩ := zf3 he
 obtain ⟨w, ew, rw'⟩ := r.get h2
 have hl := r.length
 have hn := zdR
 have fin : EP X pins σ Q w s := ⟨z, H, I, rw', q⟩
 exact subscriptTail_builtinR (x := w) pl.typeIs slot_tuple_getitem.lookup
  (getItem_tuple (j := j) (Q := fun r s' => r = w ∧ EP X pins σ Q r s') pl (by omega) (by omega) (by rw [List.size_toArray, ← hl]; exact h1) (by simpa using ew) ⟨rfl, fin⟩) hs
theorem zje : IxR X rIxS := by
 intro value slice pins s σ H x y v u Q I rx ry h hs
 obtain ⟨z, i, c, rfl, rfl, hz, he, q⟩ := h
 obtain ⟨t, rfl⟩ := rx
 obtain ⟨t', rfl⟩ := ry
 obtain ⟨j, h1, h2, h3, h4, h5⟩ := zf3 he
 have hl : z.cps.toList.length = z.length := by simp [Str.length]
 rw [hl] at h1 h4 h5
 have hn := zdR
 exact tail_any (typeIs_str s z t) slot_str_getitem.lookup (getItem_str (c := c) (by
  have e1 : decide (i < -(2 ^ 63 : Int)) = false := decide_eq_false (by omega)
  have e2 : decide (i ≥ 2 ^ 63) = false := decide_eq_false (by omega)
  rw [e1, e2, Bool.or_false]) (by rw [h1]; simpa using h2) ⟨.str ⟨#[c]⟩, H, I.tok _, ⟨_, rfl⟩, q⟩) hs
theorem zgJ (its : List Value) (n j : Nat) (u : Value) : Obj.mapSeq (·.setIfInBounds j u) { cls := .type "list", data := .seq its.toArray n } = { cls := .type "list", data := .seq (its.set j u).toArray n } := by
 simp [Obj.mapSeq]
theorem Inv.lst {pins : List (Addr × Obj)} {σ : St} {H : Hp} {s : Shared} {p : Addr} {xs : List V} (I : Inv X pins σ H s) (h : H p = some (.lst xs)) :
 ∃ (its : List Value) (n : Nat), Vals xs its ∧ s.heap.get? p = some { cls := .type "list", data := .seq its.toArray n } ∧ xs.length ≤ sizeLine := by
 obtain ⟨z, its, n, r, e⟩ := I.hok p _ h
 exact ⟨its, n, r, e, z⟩
theorem Inv.lstUpd {pins : List (Addr × Obj)} {σ : St} {H : Hp} {s : Shared} {p : Addr} {xs ys : List V} {its its' : List Value} {n n' : Nat} {f : Obj → Obj} (I : Inv X pins σ H s) (h : H p = some (.lst xs))
 (ho : s.heap.get? p = some { cls := .type "list", data := .seq its.toArray n }) (hf : f { cls := .type "list", data := .seq its.toArray n } = { cls := .type "list", data := .seq its'.toArray n' }) (r : Vals ys its') (hz : ys.length ≤ sizeLine) (t : Nat) :
 Inv X pins σ (upd H p (.lst ys)) { s with heap := s.heap.update p f, toks := t } := by
 have e : (s.heap.update p f).get? p = some { cls := .type "list", data := .seq its'.toArray n' } := by
  rw [Heap.get?_update_self f ho (by rw [hf] <;> rfl), hf]
 refine I.write (x := p) (e := p) (by rw [h]; trivial) (.inl rfl) (fun b u hb q => (Heap.get?_update_other _ _ (Ne.symm hb)).trans q) ⟨_, e⟩ ?_
 exact ⟨hz, its', n', r, e⟩
def zk8 : V → V → V → Hp → (Hp → Prop) → Prop := fun o i v H Q => ∃ p xs k j, o = .ref p ∧ i = .int k ∧ H p = some (.lst xs) ∧ ixN xs.length k = some j ∧ Q (upd H p (.lst (xs.set j v)))
theorem zd6 : PSet X zk8 := by
 intro pins s σ H o i v ov iv u Q I ro ri rv h
 obtain ⟨p, xs, k, j, rfl, rfl, hp, hj, q⟩ := h
 cases ro
 obtain ⟨t, rfl⟩ := ri
 obtain ⟨its, n, r, ho, hz⟩ := I.lst hp
 obtain ⟨h1, h2, h3, h4⟩ := zfR hj
 have hl := r.length
 have hn := zdR
 have I' : Inv X pins σ (upd H p (.lst (xs.set j v))) { s with heap := s.heap.update p (Obj.mapSeq (·.setIfInBounds j u)) } :=
  I.lstUpd hp ho (zgJ its n j u) (r.set rv j) (by rw [List.length_set]; exact hz) s.toks
 by_cases h0 : 0 ≤ k
 · have hk : k.toNat = j := by
    rw [seqIndex_of h0 h4] at h1
    exact Option.some.inj h1
   exact PySem.W.ki_setAt ho h0 (by omega) (by rw [List.size_toArray, ← hl]; exact h4) (by rw [hk]; exact ⟨_, I', q⟩)
 · have hk : (k + (its.toArray.size : Int)).toNat = j := by
    rw [seqIndex_neg (by omega) h3] at h1
    rw [List.size_toArray, ← hl]
    exact Option.some.inj h1
   exact PySem.W.ki_setBack ho (by omega) (by rw [List.size_toArray, ← hl]; exact h3) (by omega) (by rw [hk]; exact ⟨_, I', q⟩)
theorem zeG (lo hi : Option Int) (n : Nat) : (sliceBounds lo hi none n).1 = ((HT.sIx n 0 lo : Nat) : Int) ∧ (sliceBounds lo hi none n).2.1 = ((HT.sIx n n hi : Nat) : Int) ∧ (sliceBounds lo hi none n).2.2 = 1 := by
 refine ⟨?_, ?_, rfl⟩
 · cases lo with
   | none => simp [sliceBounds, HT.sIx]
   | some i =>
    simp only [sliceBounds, HT.sIx, Option.getD_none, show (1 : Int) > 0 by decide, if_true]
    by_cases h : i < 0
    · simp only [h, if_true] <;> omega
    · simp only [h, if_false] <;> omega
 · cases hi with
   | none => simp [sliceBounds, HT.sIx]
   | some i =>
    simp only [sliceBounds, HT.sIx, Option.getD_none, show (1 : Int) > 0 by decide, if_true]
    by_cases h : i < 0
    · simp only [h, if_true] <;> omega
    · simp only [h, if_false] <;> omega
theorem zd5 (its : List Value) (lo hi : Option Int) : slicePick its.toArray lo hi none = ((its.drop (HT.sIx its.length 0 lo)).take (HT.sIx its.length its.length hi - HT.sIx its.length 0 lo)).toArray := by
 obtain ⟨h1, h2, h3⟩ := zeG lo hi its.toArray.size
 unfold slicePick
 rw [h1, h2, h3]
 simp only [sliceRange_one, pick_run, List.size_toArray] <;> rfl
def rSlL (K : PySem.W.Frag) : V → Option Int → Option Int → Hp → VK → Prop := fun x lo hi H Q => ∃ a xs, x = .ref a ∧ SqL K H a xs ∧ ∀ p, H p = none → Q (.ref p) (upd H p (.lst (cutV xs lo hi)))
theorem zha : SlR X (rSlL X.K) := by
 intro pins s σ H x v vl vu lo hi sl Q I rx hs pl pu h
 obtain ⟨a, xs, rfl, hx, q⟩ := h
 cases rx
 obtain ⟨its, r, ht, hz⟩ := I.list hx
 have hlen := r.length
 refine ⟨"list", _, slot_list_getitem.lookup, ht.isList.typeIs, ?_⟩
 refine wpAny_getItem_list_slice ht.isList hs pl pu .none (by simp) ?_ (by rw [List.size_toArray] <;> omega)
 rw [zd5, ← hlen]
 refine ⟨.ref s.heap.objs.size, _, I.laid (t' := s.toks) (o := .lst (cutV xs lo hi)) (fun b ob q => Heap.get?_push_of_some _ q) (Nat.le_refl _) ?_, rfl, q _ (I.hok.fresh (Nat.le_refl _))⟩
 exact ⟨Nat.le_trans (zdI xs lo hi) hz, _, 0, (r.drop (HT.sIx xs.length 0 lo)).take (HT.sIx xs.length xs.length hi - HT.sIx xs.length 0 lo), Heap.get?_push_size _ rfl⟩
def zer : V → Bool
 | .non => true
 | .bl _ => true
 | .int _ => true
 | .str _ => true
 | _ => false
def eqV : V → V → Bool
 | .non, .non => true
 | .bl a, .bl b => a == b
 | .bl a, .int b => (if a then 1 else 0) == b
 | .int a, .bl b => a == (if b then 1 else 0)
 | .int a, .int b => a == b
 | .str a, .str b => a == b
 | _, _ => false
theorem zkQ {A : Around} {s : Shared} {y x : V} {u v : Value} (ry : RelV y u) (rx : RelV x v) (fy : zer y = true) (fx : zer x = true) : SeqAt.EqAt A s u v (eqV y x) := by
 cases y with
 | non =>
  cases ry
  cases x with
  | non => cases rx; exact SeqAt.EqAt.same _
  | bl b => cases rx; exact SeqAt.EqAt.none_bool b
  | int b => obtain ⟨t, rfl⟩ := rx; exact SeqAt.EqAt.none_int b t
  | str b => obtain ⟨t, rfl⟩ := rx; exact SeqAt.EqAt.none_str b t
  | _ => exact absurd (show false = true from fx) Bool.false_ne_true
 | bl a =>
  cases ry
  cases x with
  | non => cases rx; exact SeqAt.EqAt.bool_none a
  | bl b => cases rx; exact SeqAt.EqAt.bool_bool a b
  | int b => obtain ⟨t, rfl⟩ := rx; exact SeqAt.EqAt.bool_int a b t
  | str b => obtain ⟨t, rfl⟩ := rx; exact SeqAt.EqAt.bool_str a b t
  | _ => exact absurd (show false = true from fx) Bool.false_ne_true
 | int a =>
  obtain ⟨t', rfl⟩ := ry
  cases x with
  | non => cases rx; exact SeqAt.EqAt.int_none a t'
  | bl b => cases rx; exact SeqAt.EqAt.int_bool a t' b
  | int b => obtain ⟨t, rfl⟩ := rx; exact SeqAt.EqAt.int_int a t' b t
  | str b => obtain ⟨t, rfl⟩ := rx; exact SeqAt.EqAt.int_str a t' b t
  | _ => exact absurd (show false = true from fx) Bool.false_ne_true
 | str a =>
  obtain ⟨t', rfl⟩ := ry
  cases x with
  | non => cases rx; exact SeqAt.EqAt.str_none a t'
  | bl b => cases rx; exact SeqAt.EqAt.str_bool a t' b
  | int b => obtain ⟨t, rfl⟩ := rx; exact SeqAt.EqAt.str_int a t' b t
  | str b => obtain ⟨t, rfl⟩ := rx; exact SeqAt.EqAt.str_str a t' b t
  | _ => exact absurd (show false = true from fx) Bool.false_ne_true
 | _ => exact absurd (show false = true from fy) Bool.false_ne_true
def eqU (x : V) (u : Value) : Bool := match u with
 | .none => eqV .non x
 | .bool b => eqV (.bl b) x
 | .int i _ => eqV (.int i) x
 | .str z _ => eqV (.str z) x
 | _ => false
theorem zjg {x y : V} {u : Value} (r : RelV y u) (f : zer y = true) : eqU x u = eqV y x := by
 cases y with
 | non => cases r; rfl
 | bl b => cases r; rfl
 | int i => obtain ⟨t, rfl⟩ := r; rfl
 | str z => obtain ⟨t, rfl⟩ := r; rfl
 | _ => exact absurd (show false = true from f) Bool.false_ne_true
theorem zf4 {x : V} : ∀ {xs : List V} {us : List Value}, Vals xs us → xs.all zer = true → us.any (eqU x) = xs.any fun y => eqV y x
 | _, _, .nil, _ => rfl
 | y :: xs, u :: us, .cons r t, f => by
  rw [List.all_cons, Bool.and_eq_true] at f
  rw [List.any_cons, List.any_cons, zjg r f.1, zf4 t f.2]
theorem zel {A : Around} {s : Shared} {x : V} {v : Value} (rx : RelV x v) (fx : zer x = true) : ∀ {xs : List V} {us : List Value}, Vals xs us → xs.all zer = true → ∀ u ∈ us, SeqAt.EqAt A s u v (eqU x u)
 | _, _, .nil, _ => fun u hu => by cases hu
 | y :: xs, u :: us, .cons r t, f => fun u' hu => by
  rw [List.all_cons, Bool.and_eq_true] at f
  rcases List.mem_cons.mp hu with rfl | hu
  · rw [zjg r f.1]; exact zkQ r rx f.1 fx
  · exact zel rx fx t f.2 u' hu
def inV (x : V) (xs : List V) : Bool := xs.any fun y => eqV y x
def rIn (K : PySem.W.Frag) (neg : Bool) : R2 := fun x y H Q => ∃ p xs, y = .ref p ∧ (SqL K H p xs ∨ SqT K H p xs) ∧ zer x = true ∧ xs.all zer = true ∧ Q (.bl (if neg then !inV x xs else inV x xs)) H
theorem zeQ : OpR X (compareOp .NotIn) (rIn X.K true) := by
 intro pins s σ H x y v u Q I rx ry h
 obtain ⟨p, xs, rfl, hq, fx, fs, q⟩ := h
 cases ry
 rcases hq with hq | hq
 · obtain ⟨its, r, pl, hz⟩ := I.list hq
   refine SeqAt.notIn_listAt (eqU x) pl.isList (fun w hw => zel rx fx r fs w (by simpa using hw)) ⟨.bl _, H, I, rfl, ?_⟩
   rw [show its.toArray.any (eqU x) = its.any (eqU x) by simp, zf4 r fs]
   exact q
 · obtain ⟨its, r, pl, hz⟩ := I.tuple hq
   refine SeqAt.notIn_tupleAt (eqU x) pl (fun w hw => zel rx fx r fs w (by simpa using hw)) ⟨.bl _, H, I, rfl, ?_⟩
   rw [show its.toArray.any (eqU x) = its.any (eqU x) by simp, zf4 r fs]
   exact q
theorem zaC : zc0 X (.builtin "len") (fun xs H Q => ∃ p ys, xs = [.ref p] ∧ (SqL X.K H p ys ∨ SqT X.K H p ys) ∧ Q (.int ys.length) H) := by
 intro pins s σ H xs us Q I r h
 obtain ⟨p, ys, rfl, hq, q⟩ := h
 obtain ⟨u, rfl, rx⟩ := zdW r
 cases rx
 have hn := zdR
 rcases hq with hq | hq
 · obtain ⟨its, r', pl, hz⟩ := I.list hq
   have hlen := r'.length
   exact Calls.call_len_list pl.isList (by simp only [List.size_toArray] <;> omega) ⟨.int ys.length, H, I.tok _, ⟨s.toks + 1, by rw [List.size_toArray, hlen]⟩, q⟩
 · obtain ⟨its, r', pl, hz⟩ := I.tuple hq
   have hlen := r'.length
   exact len_tuple pl (by simp only [List.size_toArray] <;> omega) ⟨.int ys.length, H, I.tok _, ⟨s.toks + 1, by rw [List.size_toArray, hlen]⟩, q⟩
theorem zda : zc0 X (.builtin "len") (fun xs H Q => ∃ z, xs = [.str z] ∧ z.length ≤ sizeLine ∧ Q (.int z.length) H) := by
 intro pins s σ H xs us Q I r h
 obtain ⟨z, rfl, hz, q⟩ := h
 obtain ⟨u, rfl, t, rfl⟩ := zdW r
 have hn := zdR
 exact len_str (by omega) ⟨.int z.length, H, I.tok _, ⟨_, rfl⟩, q⟩
theorem zc8 : zc0 X (.type "list") (fun xs H Q => ∃ p ys, xs = [.ref p] ∧ (SqL X.K H p ys ∨ SqT X.K H p ys) ∧ ∀ l, H l = none → Q (.ref l) (upd H l (.lst ys))) := by
 intro pins s σ H xs us Q I r h
 obtain ⟨p, ys, rfl, hq, q⟩ := h
 obtain ⟨u, rfl, rx⟩ := zdW r
 cases rx
 have fin : ∀ (its : List Value), Vals ys its → ys.length ≤ sizeLine → ∀ (h' : Heap) (c' : Nat), (∀ b o', s.heap.get? b = some o' → h'.get? b = some o') →
  h'.get? s.heap.objs.size = some { cls := .type "list", dict := none, data := .seq its.toArray c', slots := #[] } → EP X pins σ Q (.ref s.heap.objs.size) { s with heap := h' } := fun its r' hz h' c' kp e =>
  ⟨.ref s.heap.objs.size, _, I.laid (t' := s.toks) kp (Nat.le_refl _) (show ObjOk X.prog X.w _ h' _ (.lst ys) from ⟨hz, its, c', r', e⟩), rfl, q _ (I.hok.fresh (Nat.le_refl _))⟩
 rcases hq with hq | hq
 · obtain ⟨its, r', pl, hz⟩ := I.list hq
   have hlen := r'.length
   obtain ⟨o, ho, hc, n, hd⟩ := pl.isList
   exact call_list_seq p (.inl rfl) ho hc hd (fun h' c' kp e => fin its r' hz h' c' kp e) (by simp only [List.size_toArray] <;> omega)
 · obtain ⟨its, r', pl, hz⟩ := I.tuple hq
   have hlen := r'.length
   obtain ⟨o, ho, hc, n, hd⟩ := pl
   exact call_list_seq p (.inr rfl) ho hc hd (fun h' c' kp e => fin its r' hz h' c' kp e) (by simp only [List.size_toArray] <;> omega)
theorem zcM : zc0 X (.type "tuple") (fun xs H Q => ∃ p ys, xs = [.ref p] ∧ ((SqL X.K H p ys ∧ ∀ l, H l = none → Q (.ref l) (upd H l (.tup ys))) ∨ (SqT X.K H p ys ∧ Q (.ref p) H))) := by
 intro pins s σ H xs us Q I r h
 obtain ⟨p, ys, rfl, h⟩ := h
 obtain ⟨u, rfl, rx⟩ := zdW r
 cases rx
 rcases h with ⟨hq, q⟩ | ⟨hq, q⟩
 · obtain ⟨its, r', pl, hz⟩ := I.list hq
   have hlen := r'.length
   refine call_tuple_list pl.isList (fun h' kp => ?_) (by simp only [List.size_toArray] <;> omega)
   have I1 : Inv X pins σ H { s with heap := h' } := I.kept (t' := s.toks) kp
   have I2 : Inv X pins σ (upd H h'.objs.size (.tup ys)) { s with heap := h'.push { cls := .type "tuple", data := .seq its.toArray } } :=
    I1.laid (t' := s.toks) (fun b o e => Heap.get?_push_of_some _ e) (Nat.le_refl _) (show ObjOk X.prog X.w _ _ _ (.tup ys) from ⟨hz, its, r', IsTupP.new _ _⟩)
   exact ⟨.ref h'.objs.size, _, I2, rfl, q _ (I1.hok.fresh (Nat.le_refl _))⟩
 · obtain ⟨its, r', pl, hz⟩ := I.tuple hq
   exact call_tuple_same pl ⟨.ref p, H, I, rfl, q⟩
def tyV (K : PySem.W.Frag) (T : String) (x : V) (H : Hp) : Prop := match x with
 | .str _ => T = "str"
 | .int _ => T = "int"
 | .ref p => (T = "list" ∧ ∃ xs, SqL K H p xs) ∨ (T = "tuple" ∧ ∃ o, K.lookup p = some o ∧ o.cls = .type "tuple" ∧ o.dict = none) ∨
  (T = "dict" ∧ ((∃ kvs, H p = some (.dK kvs)) ∨ ∃ kvs, H p = some (.dT kvs))) ∨ (T = "set" ∧ ∃ S n, H p = some (.set S n))
 | _ => False
theorem zj9 {pins : List (Addr × Obj)} {σ : St} {H : Hp} {s : Shared} {T : String} {x : V} {v : Value} (I : Inv X pins σ H s) (r : RelV x v) (ty : tyV X.K T x H) :
 s.TypeIs v T ∧ ∀ a, v = .ref a → ∃ ob, s.heap.get? a = some ob ∧ ob.dict = none := by
 cases x with
 | str z =>
  obtain ⟨t, rfl⟩ := r
  cases (show T = "str" from ty)
  exact ⟨typeIs_str s z t, fun _ e => nomatch e⟩
 | int i =>
  obtain ⟨t, rfl⟩ := r
  cases (show T = "int" from ty)
  exact ⟨typeIs_int s i t, fun _ e => nomatch e⟩
 | ref p =>
  cases r
  rcases ty with ⟨rfl, xs, hq⟩ | ⟨rfl, o, hk, hc, hd⟩ | ⟨rfl, hk⟩ | ⟨rfl, S, n, hk⟩
  · obtain ⟨its, _, pl, _⟩ := I.list hq
    refine ⟨pl.isList.typeIs, fun a e => ?_⟩
    cases e
    obtain ⟨o, n, e, c, hd, _⟩ := pl
    exact ⟨o, e, hd⟩
  · refine ⟨⟨o, I.kIn p o hk, hc⟩, fun a e => ?_⟩
    cases e
    exact ⟨o, I.kIn _ o hk, hd⟩
  · have z : ∃ o, s.heap.get? p = some o ∧ o.ExactDict := by
     rcases hk with ⟨kvs, hk⟩ | ⟨kvs, hk⟩
     · obtain ⟨_, _, _, _, o, _, _, e, ex, _⟩ := I.hok p _ hk
       exact ⟨o, e, ex⟩
     · obtain ⟨_, _, _, _, o, _, _, e, ex, _⟩ := I.hok p _ hk
       exact ⟨o, e, ex⟩
    obtain ⟨o, e, ex⟩ := z
    refine ⟨⟨o, e, ex.1⟩, fun a e2 => ?_⟩
    cases e2
    exact ⟨o, e, ex.2.1⟩
  · obtain ⟨o, _, _, _, e, ex, _⟩ := I.hok p _ hk
    refine ⟨⟨o, e, ex.1⟩, fun a e2 => ?_⟩
    cases e2
    exact ⟨o, e, ex.2.1⟩
 | _ => exact False.elim ty
def tBM (K : PySem.W.Frag) (T : String) (r : V → List V → Hp → VK → Prop) (to : TE) (t : TA) : TE := fun σ H Q => to σ H fun x H1 => tyV K T x H1 ∧ t σ H1 fun xs H2 => r x xs H2 Q
variable {o e : Expr} {es : List Expr} {to : TE} {t : TA} {name : Str} {apos cpos : Pos} {T id : String} {r : V → List V → Hp → VK → Prop}
theorem zee (pa : PlainAttrs T) (slot : Slot T name id) (hty : typeOf (.builtin id) = pure (.type "method_descriptor")) (hm : MtR X id r) (ho : PE X o to) (ha : PA X (e :: es) t)
 (hbase : attributeBase o name X.env (eval o X.env) = eval o X.env := by rfl)
 (hfew : ((backTo cpos (starEach (e :: es) X.env)).all (fun x => !x.1) && (backToKw cpos (keywordEach [] X.env)).all (fun x => x.1.isSome)
  && decide ((e :: es).length + ([] : List Keyword).length + (if ([] : List Keyword).isEmpty then 0 else 1) < 30)) = true := by rfl)
 (hline : (apos.endLine == cpos.line) = true := by rfl) (hs : starEach (e :: es) X.env = (false, eval e X.env) :: starEach es X.env := by rfl) (hplain : (backTo cpos (starEach es X.env)).any (·.1) = false := by rfl) :
 PE X (.Call (.Attribute o name apos) (e :: es) [] cpos) (tBM X.K T r to t) := by
 intro pins s σ H Q I h
 refine wpAny_Call_method_late hbase hfew hline rfl (thn (ho pins s σ H _ I h) fun v s1 ⟨x, H1, I1, r1, ty, q1⟩ => ?_)
 obtain ⟨h1, h2⟩ := zj9 I1 r1 ty
 refine ⟨T, id, pa, slot, hty, h1, h2, ?_⟩
 have hA := ha cpos pins s1 σ H1 _ I1 q1
 rw [hs] at hA ⊢
 refine Calls.callWith_builtin (by show (false || (backTo cpos (starEach es X.env)).any (·.1)) = false; rw [hplain] <;> rfl) (Calls.evalArgs_plain ?_)
 exact thn hA fun us s2 ⟨vs, H2, I2, r2, q2⟩ => hm pins s2 σ H2 x vs v us Q I2 r1 r2 q2
end
def MtM (X : Cx) (id : String) (r : V → List V → Hp → VK → Prop) : Prop :=
 ∀ (pins : List (Addr × Obj)) (s : Shared) (σ : St) (H : Hp) (x : V) (xs : List V) (v : Value) (us : List Value) (Q : VK), Inv X pins σ H s → RelV x v → Vals xs us → r x xs H Q →
  wpAny (model X.prog X.w) X.A (call (.builtin id) (v :: us)) (EP X pins σ Q) X.xe s
theorem Vals.one : ∀ {x : V} {us : List Value}, Vals [x] us → ∃ u, us = [u] ∧ RelV x u
 | _, _, .cons r .nil => ⟨_, rfl, r⟩
theorem Vals.eraseIdx : ∀ {xs : List V} {us : List Value} (i : Nat), Vals xs us → Vals (xs.eraseIdx i) (us.eraseIdx i)
 | _, _, _, .nil => .nil
 | _, _, 0, .cons _ t => t
 | _, _, i + 1, .cons r t => .cons r (Vals.eraseIdx i t)
theorem zeU {α : Type} : ∀ (l : List α) (i : Nat), (l.eraseIdx i).length ≤ l.length
 | [], _ => Nat.le_refl _
 | _ :: _, 0 => Nat.le_succ _
 | _ :: r, i + 1 => Nat.succ_le_succ (zeU r i)
section
variable {X : Cx} {pins : List (Addr × Obj)} {σ : St} {H : Hp} {s : Shared} {l b : Addr} {xs ys zs : List V}
theorem Inv.lset {its its' : List Value} {n : Nat} {f : Array Value → Array Value} {t' : Nat} (I : Inv X pins σ H s) (hH : H l = some (.lst xs))
 (e : s.heap.get? l = some { cls := .type "list", data := .seq its.toArray n }) (hf : f its.toArray = its'.toArray) (hv : Vals ys its') (hz : ys.length ≤ sizeLine) :
 Inv X pins σ (upd H l (.lst ys)) { s with heap := s.heap.update l (Obj.mapSeq f), toks := t' } := by
 have q := PySem.IsL.update e f
 rw [hf] at q
 refine I.write (x := l) (e := l) (by rw [hH]; exact trivial) (.inl rfl) (fun b' u hb hu => (Heap.get?_update_other s.heap (Obj.mapSeq f) (Ne.symm hb)).trans hu) ⟨_, q⟩ ?_
 exact ⟨hz, its', _, hv, q⟩
theorem Inv.lstM (I : Inv X pins σ H s) (hH : H l = some (.lst xs)) : xs.length ≤ sizeLine ∧ ∃ (its : List Value) (n : Nat), Vals xs its ∧ xs.length = its.length ∧ s.heap.get? l = some { cls := .type "list", data := .seq its.toArray n } := by
 obtain ⟨z, its, n, r, e⟩ := I.hok l _ hH
 exact ⟨z, its, n, r, r.length, e⟩
theorem notLongL {n : Nat} (h : n ≤ sizeLine) : Builtin.List.listTooLong n = false := by
 unfold Builtin.List.listTooLong
 exact decide_eq_false (by omega)
end
section
variable {X : Cx}
def zhi : V → List V → Hp → VK → Prop := fun x vs H Q => ∃ l xs y, x = .ref l ∧ vs = [y] ∧ H l = some (.lst xs) ∧ xs.length < sizeLine ∧ Q .non (upd H l (.lst (xs ++ [y])))
theorem zbk : MtM X "list.append" zhi := by
 intro pins s σ H x vs v us Q I rx rv h
 obtain ⟨l, xs, y, rfl, rfl, hH, hz, q⟩ := h
 cases rx
 obtain ⟨u, rfl, ru⟩ := rv.one
 obtain ⟨z, its, n, r, hl, e⟩ := I.lstM hH
 refine call_meets F.slot_list_append ⟨_, e, rfl⟩ F.entry_list_append (F.args_list_append_2 _ _) (PySem.list_append l its.toArray n u (by rw [List.size_toArray]; omega)) ⟨e, ?_⟩
 refine ⟨.non, _, I.lset (its' := its ++ [u]) hH e (by simp) (r.append (.cons ru .nil)) ?_, rfl, q⟩
 rw [List.length_append, List.length_singleton]
 omega
def zkn : V → List V → Hp → VK → Prop := fun x vs H Q => ∃ l xs i k y, x = .ref l ∧ vs = [.int i] ∧ H l = some (.lst xs) ∧ -(2 ^ 63) ≤ i ∧ i < 2 ^ 63 ∧ seqIndex? i xs.length = some k ∧ xs[k]? = some y ∧ Q y (upd H l (.lst (xs.eraseIdx k)))
theorem ziK : MtM X "list.pop" zkn := by
 intro pins s σ H x vs v us Q I rx rv h
 obtain ⟨l, xs, i, k, y, rfl, rfl, hH, h1, h2, hk, hy, q⟩ := h
 cases rx
 obtain ⟨u, rfl, ru⟩ := rv.one
 obtain ⟨t, rfl⟩ := ru
 obtain ⟨z, its, n, r, hl, e⟩ := I.lstM hH
 obtain ⟨w, hw, rw'⟩ := r.get hy
 refine call_meets F.slot_list_pop ⟨_, e, rfl⟩ F.entry_list_pop (F.args_list_pop_2 _ _)
  (MeetsSeq.list_pop_at l its.toArray n i t k w (fitsIndex_both h1 h2) (by rw [List.size_toArray, ← hl]; exact hk) (by rw [← Array.getElem?_toList]; exact hw) (by rw [List.size_toArray]; omega)) ⟨e, ?_⟩
 refine ⟨y, _, I.lset (its' := its.eraseIdx k) hH e ?_ (r.eraseIdx k) ?_, rw', q⟩
 · show its.toArray.eraseIdxIfInBounds k = (its.eraseIdx k).toArray
   rw [List.eraseIdxIfInBounds_toArray]
 · have := zeU xs k
   omega
end
section
variable {prog : Program} {w : World} {A : Around} {E : Value → Shared → Prop} {s : Shared}
theorem bounds_run {a c n : Nat} (hac : a ≤ c) (hc : c ≤ n) : sliceBounds (some (a : Int)) (some (c : Int)) none n = ((a : Int), (c : Int), 1) := by
 simp only [sliceBounds, Option.getD_none]
 have h1 : ¬ ((a : Int) < 0) := by omega
 have h2 : ¬ ((c : Int) < 0) := by omega
 simp only [h1, h2, if_false, show (1 : Int) > 0 by decide, if_true]
 congr 1
 · omega
 · congr 1; omega
set_option maxRecDepth 100000 in
end
section
variable {X : Cx}
end
section
variable {κ : Type} [DecidableEq κ]
def valV (kvs : List (κ × V)) (k : κ) : Option V := (kvs.find? fun kv => decide (kv.1 = k)).map (·.2)
def putK (kvs : List (κ × V)) (k : κ) (v : V) : List (κ × V) :=
 if (kvs.any fun kv => decide (kv.1 = k)) = true then kvs.map (fun kv => if kv.1 = k then (kv.1, v) else kv) else kvs ++ [(k, v)]
theorem za3 {p : κ × V} {r : List (κ × V)} {k : κ} (e : p.1 = k) : valV (p :: r) k = some p.2 := by simp [valV, List.find?_cons, e]
theorem za4 {p : κ × V} {r : List (κ × V)} {k : κ} (e : ¬ p.1 = k) : valV (p :: r) k = valV r k := by simp [valV, List.find?_cons, e]
theorem zdX (k : κ) : ∀ kvs : List (κ × V), (kvs.any fun kv => decide (kv.1 = k)) = (valV kvs k).isSome
 | [] => rfl
 | p :: r => by
  rw [List.any_cons]
  by_cases e : p.1 = k
  · simp only [za3 e, decide_eq_true e, Bool.true_or, Option.isSome_some]
  · rw [za4 e, decide_eq_false e, Bool.false_or]; exact zdX k r
theorem zf8 (k j : κ) (y : V) : ∀ kvs : List (κ × V), valV (kvs.map fun kv => if kv.1 = k then (kv.1, y) else kv) j = (valV kvs j).map fun x => if j = k then y else x
 | [] => rfl
 | p :: r => by
  have ih := zf8 k j y r
  rw [List.map_cons]
  by_cases h : p.1 = k
  · rw [if_pos h]
    by_cases e : p.1 = j
    · rw [za3 (p := (p.1, y)) e, za3 e, Option.map_some, if_pos (e.symm.trans h)]
    · rw [za4 (p := (p.1, y)) e, za4 e, ih]
  · rw [if_neg h]
    by_cases e : p.1 = j
    · rw [za3 (p := p) e, za3 e, Option.map_some, if_neg (fun z => h (e.trans z))]
    · rw [za4 (p := p) e, za4 e, ih]
theorem zeC (k j : κ) (y : V) : ∀ kvs : List (κ × V), valV kvs k = none → valV (kvs ++ [(k, y)]) j = if j = k then some y else valV kvs j
 | [], _ => by
  by_cases e : k = j
  · rw [if_pos e.symm]; exact za3 (p := (k, y)) e
  · rw [if_neg (fun z => e z.symm)]; exact za4 (p := (k, y)) e
 | p :: r, hn => by
  rw [List.cons_append]
  have hk : ¬ p.1 = k := fun z => by rw [za3 z] at hn; cases hn
  rw [za4 hk] at hn
  have ih := zeC k j y r hn
  by_cases e : p.1 = j
  · rw [za3 e, za3 e, if_neg (fun z => hk (e.trans z))]
  · rw [za4 e, za4 e, ih]
theorem zik (kvs : List (κ × V)) (k j : κ) (y : V) : valV (putK kvs k y) j = if j = k then some y else valV kvs j := by
 unfold putK
 by_cases a : (kvs.any fun kv => decide (kv.1 = k)) = true
 · rw [if_pos a, zf8]
   rw [zdX] at a
   by_cases e : j = k
   · obtain ⟨x, hx⟩ := Option.isSome_iff_exists.mp a
     rw [if_pos e, e, hx, Option.map_some, if_pos rfl]
   · rw [if_neg e]
     cases valV kvs j with
     | none => rfl
     | some x => rw [Option.map_some, if_neg e]
 · rw [if_neg a]
   refine zeC k j y kvs ?_
   rw [zdX] at a
   cases q : valV kvs k with
   | none => rfl
   | some x => rw [q] at a; exact (a rfl).elim
theorem zdF (kvs : List (κ × V)) (k : κ) (v : V) : (putK kvs k v).length ≤ kvs.length + 1 := by
 unfold putK
 split
 · rw [List.length_map]; omega
 · rw [List.length_append, List.length_cons, List.length_nil]; omega
theorem RelO.isSome_eq {o : Option V} {u : Option Value} (r : RelO o u) : o.isSome = u.isSome := by
 cases o with
 | none => cases u with
  | none => rfl
  | some _ => exact (show False from r).elim
 | some _ => cases u with
  | none => exact (show False from r).elim
  | some _ => rfl
theorem KV.val {kvs : List (κ × V)} {vs : List (κ × Value)} (r : KV kvs vs) (k : κ) : RelO (valV kvs k) (valueAt vs k) := by
 unfold KV at r
 induction r with
 | nil => exact True.intro
 | @cons p q ps qs h t ih =>
  obtain ⟨h1, h2⟩ := h
  by_cases e : p.1 = k
  · have e' : q.1 = k := h1.symm.trans e
    have b : valueAt (q :: qs) k = some q.2 := by simp [valueAt, List.find?_cons, e']
    rw [za3 e, b]; exact h2
  · have e' : ¬ q.1 = k := fun z => e (h1.trans z)
    have b : valueAt (q :: qs) k = valueAt qs k := by simp [valueAt, List.find?_cons, e']
    rw [za4 e, b]; exact ih
theorem KV.any {kvs : List (κ × V)} {vs : List (κ × Value)} (r : KV kvs vs) (k : κ) : (kvs.any fun kv => decide (kv.1 = k)) = vs.any fun kv => decide (kv.1 = k) := by
 unfold KV at r
 induction r with
 | nil => rfl
 | cons h t ih => rw [List.any_cons, List.any_cons, ih, h.1]
theorem KV.repl {kvs : List (κ × V)} {vs : List (κ × Value)} (r : KV kvs vs) (k : κ) {y : V} {u : Value} (ry : RelV y u) :
 KV (kvs.map fun kv => if kv.1 = k then (kv.1, y) else kv) (vs.map fun kv => if kv.1 = k then (kv.1, u) else kv) := by
 unfold KV at r ⊢
 induction r with
 | nil => exact .nil
 | @cons p q ps qs h t ih =>
  rw [List.map_cons, List.map_cons]
  refine .cons ?_ ih
  obtain ⟨h1, h2⟩ := h
  by_cases e : p.1 = k
  · rw [if_pos e, if_pos (h1.symm.trans e)]; exact ⟨h1, ry⟩
  · rw [if_neg e, if_neg (fun z => e (h1.trans z))]; exact ⟨h1, h2⟩
theorem KV.put {kvs : List (κ × V)} {vs : List (κ × Value)} (r : KV kvs vs) (k : κ) {y : V} {u : Value} (ry : RelV y u) : KV (putK kvs k y) (stored vs k u) := by
 unfold putK stored
 rw [r.any k]
 by_cases e : (vs.any fun kv => decide (kv.1 = k)) = true
 · rw [if_pos e, if_pos e]; exact r.repl k ry
 · rw [if_neg e, if_neg e]; exact Paired.snoc r ⟨rfl, ry⟩
theorem KV.length {kvs : List (κ × V)} {vs : List (κ × Value)} (r : KV kvs vs) : kvs.length = vs.length := Paired.length r
end
theorem ziP {P : Program} {w : World} {k : Key} {u : Value} (r : RelV (kV k) u) : (zbn P w).is k u = true := by
 cases k with
 | inl i => obtain ⟨t, e⟩ := (show ∃ t, u = Value.int i t from r); subst e; exact zfL P w i t
 | inr x => obtain ⟨t, e⟩ := (show ∃ t, u = Value.str x t from r); subst e; exact zfK P w x t
theorem zeX {P : Program} {w : World} : ∀ {ks : List Key} {us : List Value}, Vals (ks.map kV) us → ItemsAre (zbn P w) ks us
 | [], _, r => by rw [List.map_nil] at r; cases r; exact .nil
 | k :: ks, _, r => by
  rw [List.map_cons] at r
  cases r with
  | cons h t => exact .cons (ziP h) (zeX t)
abbrev KT (H : Hp) : List (List Key × V) → List (List Key × Addr × Value) → Prop := Paired fun p q => p.1 = q.1 ∧ H q.2.1 = some (.tup (p.1.map kV)) ∧ RelV p.2 q.2.2
theorem KT.val {H : Hp} {kvs : List (List Key × V)} {xs : List (List Key × Addr × Value)} (r : KT H kvs xs) (k : List Key) : RelO (valV kvs k) ((atKey xs k).map (·.2)) := by
 induction r with
 | nil => exact True.intro
 | @cons p q ps qs h t ih =>
  obtain ⟨h1, _, h2⟩ := h
  by_cases e : p.1 = k
  · have e' : q.1 = k := h1.symm.trans e
    have b : atKey (q :: qs) k = some q.2 := by simp [atKey, List.find?_cons, e']
    rw [za3 e, b]; exact h2
  · have e' : ¬ q.1 = k := fun z => e (h1.trans z)
    have b : atKey (q :: qs) k = atKey qs k := by simp [atKey, List.find?_cons, e']
    rw [za4 e, b]; exact ih
section
variable {P : Program} {w : World} {H : Hp} {h : Heap} {a : Addr}
theorem zkl {u : HO} (ok : HOk P w H h) (e : Rd H a u) : ObjOk P w H h a u := e.ok ok
theorem ziV {kvs : List (Key × V)} (ok : HOk P w H h) (e : Rd H a (.dK kvs)) : kvs.length ≤ sizeLine ∧ (a == sysModules) = false ∧ ∃ vs, KV kvs vs ∧ h.DictOf (zbn P w) a vs :=
 show ObjOk P w H h a (.dK kvs) from zkl ok e
theorem zeu {kvs : List (Key × V)} (ok : HOk P w H h) (e : H a = some (.dK kvs)) : kvs.length ≤ sizeLine ∧ (a == sysModules) = false ∧ ∃ vs, KV kvs vs ∧ h.DictOf (zbn P w) a vs := ziV ok (.inl e)
theorem zhK {ks : List Key} (ok : HOk P w H h) (e : H a = some (.tup (ks.map kV))) : (tupleKind (zbn P w)).is h ks a := by
 obtain ⟨_, its, r, o, h1, h2, _, n, h3⟩ := (show ObjOk P w H h a (.tup (ks.map kV)) from ok a _ e)
 exact ⟨o, its.toArray, n, h1, h2, h3, by simpa using zeX r⟩
theorem zj0 {kvs : List (List Key × V)} (ok : HOk P w H h) (e : Rd H a (.dT kvs)) : kvs.length ≤ sizeLine ∧ (a == sysModules) = false ∧
 ∃ xs, KT H kvs xs ∧ h.DictOfH (tupleKind (zbn P w)) a xs := by
 obtain ⟨z, y, xs, r, o, es, ep, h1, h2, h3, h4, h5⟩ := (show ObjOk P w H h a (.dT kvs) from zkl ok e)
 refine ⟨z, y, xs, r, o, es, ep, h1, h2, h3, h4, fun x hx => ?_, h5⟩
 have all : ∀ {l : List (List Key × V)} {m : List (List Key × Addr × Value)}, KT H l m → ∀ x ∈ m, (tupleKind (zbn P w)).is h x.1 x.2.1 := by
  intro l m q
  induction q with
  | nil => intro x hx; exact nomatch hx
  | @cons p q ps qs hq t ih =>
   intro x hx
   rcases List.mem_cons.mp hx with e | hx
   · subst e
     exact zhK ok (by rw [← hq.1]; exact hq.2.1)
   · exact ih x hx
 exact all r x hx
end
def DGet (H : Hp) (a : Addr) (y : V) (r : Option V) : Prop :=
 (∃ kvs k, Rd H a (.dK kvs) ∧ y = kV k ∧ r = valV kvs k) ∨ ∃ kvs k b, Rd H a (.dT kvs) ∧ y = .ref b ∧ H b = some (.tup (k.map kV)) ∧ r = valV kvs k
theorem DGet.k {H : Hp} {a : Addr} {kvs : List (Key × V)} {k : Key} (e : H a = some (.dK kvs)) : DGet H a (kV k) (valV kvs k) := .inl ⟨kvs, k, .inl e, rfl, rfl⟩
section
variable {X : Cx} {pins : List (Addr × Obj)} {σ : St} {H : Hp} {s : Shared} {a : Addr} {y v : V} {u r : Value} {o : Option V} {A : Around} {E : Value → Shared → Prop}
theorem Inv.big (I : Inv X pins σ H s) : sysModules < s.heap.objs.size := by
 have h : mainGlobals < s.heap.objs.size := (I.mod.glob.keeps I.bk).lt
 exact Nat.lt_trans (by decide) h
theorem zh5 {Q : Value → Shared → Prop} (hu : A.units + 1 < cLine) (I : Inv X pins σ H s) (g : DGet H a y (some v)) (ry : RelV y u) (h : ∀ w' s', Inv X pins σ H s' → RelV v w' → Q w' s') :
 wpAny (model X.prog X.w) A (getItem (.ref a) u) Q E s := by
 rcases g with ⟨kvs, k, e, ey, l⟩ | ⟨kvs, k, b, e, ey, eb, l⟩
 · subst ey
   obtain ⟨z, hd, vs, rel, dd⟩ := ziV I.hok e
   obtain ⟨w', hw, rw'⟩ := RelO.some_of (v := v) (o := valueAt vs k) (by rw [l]; exact rel.val k)
   exact wpAny_getItem_of (ziP ry) dd.mapOf hw (h w' _ (I.tok _) rw')
 · subst ey
   cases (show u = Value.ref b from ry)
   obtain ⟨z, hd, xs, rel, dd⟩ := zj0 I.hok e
   obtain ⟨w', hw, rw'⟩ := RelO.some_of (v := v) (o := (atKey xs k).map (·.2)) (by rw [l]; exact rel.val k)
   obtain ⟨p, hp, hp2⟩ := Option.map_eq_some_iff.mp hw
   refine wpAny_getItem_heap (tupleKind_room_in1 hu) (zhK I.hok eb) dd hp ?_
   rw [hp2]
   exact h w' _ (I.tok _) rw'
theorem zj1 {Q : Value → Shared → Prop} (hu : A.units + 1 < cLine) (I : Inv X pins σ H s) (g : DGet H a y o) (ry : RelV y u) (h : ∀ s', Inv X pins σ H s' → Q (.bool (!o.isSome)) s') :
 wpAny (model X.prog X.w) A (compareOp .NotIn u (.ref a)) Q E s := by
 rcases g with ⟨kvs, k, e, ey, l⟩ | ⟨kvs, k, b, e, ey, eb, l⟩
 · subst ey
   obtain ⟨z, hd, vs, rel, dd⟩ := ziV I.hok e
   refine wpAny_notIn_of (ziP ry) hd dd.mapOf ?_
   rw [← (rel.val k).isSome_eq, ← l]
   exact h _ (I.tok _)
 · subst ey
   cases (show u = Value.ref b from ry)
   obtain ⟨z, hd, xs, rel, dd⟩ := zj0 I.hok e
   refine wpAny_notIn_heap (tupleKind_room_in1 hu) (zhK I.hok eb) hd dd ?_
   have q := (rel.val k).isSome_eq
   rw [Option.isSome_map] at q
   rw [← q, ← l]
   exact h _ (I.tok _)
theorem zh4 {h' : Heap} {t' : Nat} {ob : HO} (I : Inv X pins σ H s) (mu : Mut (H a)) (hs : Heap.SameBut a s.heap h') (he : ∃ q, h'.get? a = some q) (new : ObjOk X.prog X.w (upd H a ob) h' a ob) :
 Inv X pins σ (upd H a ob) { s with heap := h', toks := t' } :=
 I.write (x := a) (e := a) mu (.inl rfl) (fun b q hb z => (hs.2 b hb).trans z) he new
theorem zkR {P : Program} {w : World} {H' : Hp} {h' : Heap} {kvs : List (Key × V)} {vs : List (Key × Value)} (z : kvs.length ≤ sizeLine) (hd : (a == sysModules) = false) (rel : KV kvs vs) (dd : h'.DictOf (zbn P w) a vs) :
 ObjOk P w H' h' a (.dK kvs) := ⟨z, hd, vs, rel, dd⟩
end
section
variable {X : Cx} {pins : List (Addr × Obj)} {σ : St} {H : Hp} {s : Shared} {a : Addr} {kvs : List (Key × V)} {k : Key} {u : Value} {A : Around} {E : Value → Shared → Prop}
end
def NoSl (i : Expr) : Prop := ∀ ov iv, subscripted i false ov iv = operate [ov, iv] (getItem ov iv)
theorem zjt {prog : Program} {w : World} {A : Around} {E : Value → Shared → Prop} {s : Shared} {env : Env} {value slice : Expr} {pos : Pos} {T id : String} {Q : Value → Shared → Prop}
 (hl : typeLookup (.type T) "__getitem__" = pure (some (.builtin id))) (hs : NoSl slice)
 (h : wpAny (model prog w) A (eval value env) (fun o s₁ => wpAny (model prog w) A (eval slice env) (fun i s₂ => s₂.TypeIs o T ∧ wpAny (model prog w) A (getItem o i) Q E s₂) E s₁) E s) :
 wpAny (model prog w) A (eval (.Subscript value slice pos) env) Q E s := by
 refine Subscript_ (wpAny_mono h (fun o s₁ h₁ => wpAny_mono h₁ (fun i s₂ h₂ => ?_) fun _ _ x => x) fun _ _ x => x)
 obtain ⟨hT, h₂⟩ := h₂
 unfold subscriptTail
 refine wpAny_bind ?_
 rw [getitemInPython_of_ne hT.not_modules]
 refine wpAny_bind (wpAny_specialOf hT hl ?_)
 have fin : wpAny (model prog w) A (subscripted slice false o i) (fun r s₃ => wpAny (model prog w) A (letTemporaryGo value o r >>= fun _ => pure r) Q E s₃) E s₂ := by
  rw [hs o i]
  exact wpAny_operating (wpAny_mono h₂ (fun r s₃ h₃ => wpAny_bind (wpAny_letTemporaryGo (wpAny_pure h₃))) fun _ _ x => x)
 first
  | exact wpAny_pure (wpAny_bind fin)
  | exact wpAny_bind (wpAny_pure (wpAny_bind fin))
  | exact wpAny_bind fin
theorem zfX {X : Cx} {pins : List (Addr × Obj)} {σ : St} {H : Hp} {s : Shared} {a : Addr} {y : V} {o : Option V} (I : Inv X pins σ H s) (g : DGet H a y o) : s.TypeIs (.ref a) "dict" := by
 rcases g with ⟨kvs, k, e, _, _⟩ | ⟨kvs, k, b, e, _, _, _⟩
 · obtain ⟨_, _, vs, _, dd⟩ := ziV I.hok e
   exact dd.typeIs
 · obtain ⟨_, _, xs, _, dd⟩ := zj0 I.hok e
   exact dd.typeIs
def zk5 (td ty : TE) : TE := fun σ H Q => td σ H fun x H1 => ty σ H1 fun y H2 => ∃ a v, x = .ref a ∧ DGet H2 a y (some v) ∧ Q v H2
def zjs (ty td : TE) : TE := fun σ H Q => ty σ H fun y H1 => td σ H1 fun x H2 => ∃ a o, x = .ref a ∧ DGet H2 a y o ∧ Q (.bl (!o.isSome)) H2
section
variable {X : Cx} {o i e value : Expr} {pos pos' tpos : Pos} {td ty tv : TE}
theorem zjH (hu : X.A.units + 1 < cLine) (ho : PE X o td) (hi : PE X i ty) (hs : NoSl i) : PE X (.Subscript o i pos) (zk5 td ty) := by
 intro pins s σ H Q I h
 refine zjt PySem.F.slot_dict_getitem.lookup hs (thn (ho pins s σ H _ I h) fun u s1 ⟨x, H1, I1, rx, q1⟩ => thn (hi pins s1 σ H1 _ I1 q1) fun iv s2 ⟨y, H2, I2, ry, a, v, ex, g, q2⟩ => ?_)
 subst ex
 obtain rfl : u = Value.ref a := rx
 exact ⟨zfX I2 g, zh5 hu I2 g ry fun w' s3 I3 rw' => ⟨v, H2, I3, rw', q2⟩⟩
theorem zhs (hu : X.A.units + 1 < cLine) (hi : PE X i ty) (ho : PE X o td) : PC X .NotIn i o (zjs ty td) := by
 intro pins s σ H Q I h
 refine thn (hi pins s σ H _ I h) fun iv s1 ⟨y, H1, I1, ry, q1⟩ => thn (ho pins s1 σ H1 _ I1 q1) fun u s2 ⟨x, H2, I2, rx, a, ov, ex, g, q2⟩ => ?_
 subst ex
 obtain rfl : u = Value.ref a := rx
 exact zj1 hu I2 g ry fun s3 I3 => ⟨.bl (!ov.isSome), H2, I3, rfl, q2⟩
end
theorem ziW {P : Program} {w : World} {H : Hp} (h : Heap) (hb : sysModules < h.objs.size) : ObjOk P w H (h.push { cls := .type "dict", data := .dict #[] }) h.objs.size (.dK []) :=
 ⟨Nat.zero_le _, beq_eq_false_iff_ne.mpr (Ne.symm (Nat.ne_of_lt hb)), [], .nil, Heap.DictOf.new h⟩
section
variable {X : Cx} {pos : Pos}
end
section
variable {X : Cx} {pins : List (Addr × Obj)} {σ : St} {H : Hp} {s : Shared} {a : Addr} {y d : V} {u r : Value} {o : Option V} {A : Around} {E : Value → Shared → Prop}
end
section
variable {X : Cx} {o e f : Expr} {apos cpos : Pos} {td ty tx : TE}
end
section
variable {X : Cx} {pins : List (Addr × Obj)} {σ : St} {H : Hp} {s : Shared} {a : Addr} {kvs : List (Key × V)} {A : Around} {E : Value → Shared → Prop}
end
section
variable {X : Cx} {pins : List (Addr × Obj)} {σ : St} {H : Hp} {s : Shared} {a : Addr} {y : V} {u : Value} {A : Around} {E : Value → Shared → Prop}
end
end L2
namespace Att
open PySem PySem.W PySem.Calls PyProof.Rows
theorem zdH {P : Params} {h : Heap} : ∀ (ns : List Int) (vs : List Value), WellAll P h vs (ns.map WData.int) → IntsAre vs ns := by
 intro ns
 induction ns with
 | nil =>
  intro vs w
  rw [List.map_nil] at w
  cases w
  exact .nil
 | cons n ns ih =>
  intro vs w
  rw [List.map_cons] at w
  cases w with
  | cons a b =>
   cases a
   exact .cons _ _ (ih _ b)
theorem zhb {l : OpenLaw} {n : Nat} (hn : l.most = some n) {P : Params} {h : Heap} {args : List WData} {vals : List Value}
 (hpre : l.row.toRowW.claim.pre args = true) (hwl : WellAll P h vals args) :
 ∃ a vs ns, vals = [Value.ref a] ∧ args = [WData.list (ns.map WData.int)] ∧ h.get? a = some { cls := .type "list", data := .seq vs.toArray } ∧ IntsAre vs ns ∧ ns.length ≤ n := by
 have hsh : WShape.hasAll [] args [.list .int] = true := (pre_splitW hpre).1
 have hc : l.pre.holds [] { args := args } = true := (pre_splitW hpre).2
 obtain ⟨d, r, rfl, h1, h2⟩ := hasAllW_cons hsh
 obtain rfl := hasAllW_nil h2
 obtain ⟨xs, rfl, h3⟩ := hasW_list h1
 obtain ⟨ns, rfl⟩ := items_int h3
 have hlen : ns.length ≤ n := by
  unfold OpenLaw.pre at hc
  have h4 : (WTm.not (.lt (.lit (.int (n : Int))) (.len (.arg 0)))).holds [] { args := [.list (ns.map .int)] } = true := by
   have h4 := (holds_andW hc).1
   rw [hn] at h4
   exact h4
  have h5 := condW_of h4 (w_not (w_lt w_lit (w_len_list (w_arg rfl))))
  rw [List.length_map] at h5
  refine Nat.le_of_not_lt fun q => ?_
  have q' : (n : Int) < ((ns.length : Nat) : Int) := by omega
  first
   | (rw [decide_eq_true q'] at h5; exact absurd h5 (by decide))
   | (simp at h5; omega)
 cases hwl with
 | cons w1 w2 =>
  cases w2
  cases w1 with
  | list ho hall => exact ⟨_, _, ns, rfl, rfl, ho, zdH ns _ hall, hlen⟩
theorem zhn (l : OpenLaw) (args : List WData) : l.row.toRowW.claim.post args (.bool true) args = true :=
 postW_of (r := l.row.toRowW) (X := (true == true))
  (show WShape.has [] (.bool true) .bool = true by first | rfl | decide | simp [WShape.has, WShape.arms, WShape.armsAll])
  (show (WTm.eq .res (.lit (.bool true))).value [] { args := args, res := some (.bool true), after := args } = some (.bool (true == true)) from w_eq_bool (w_res rfl) w_lit) rfl
theorem attach_call {l : OpenLaw} {n : Nat} {q : Program} {loose : List Str} {XP : (Str → Option Value) → Heap → Prop} {YP : World → Heap → Prop} {d : DefRec}
 (hn : l.most = some n) (hdf : d.params.defaults = [])
 (call : ∀ (w : World) (s₀ s₁ : Shared) (mg mb : Str → Option Value) (fa : Addr) (o : Obj) (pm cd doc : Value) (a : Addr) (vs : List Value) (ns : List Int),
  Ground q loose [] XP w s₀ mg mb s₁.heap → YP w s₁.heap →
  s₁.heap.get? fa = some o → o.data = .func (docDef d.name d.params d.body d.scope pm cd doc) → s₁.heap.CodeRec cd d.name → mg d.name = some (.ref fa) →
  s₁.heap.get? a = some { cls := .type "list", data := .seq vs.toArray } → IntsAre vs ns → ns.length ≤ n → s₁.gens = #[] →
  codeAny (model l.prog w) callerA (.call (.ref fa) ⟨[.ref a], []⟩) (fun r s' => r = .ok (.ret (.bool true)) ∧ OldK s₁.heap s'.heap ∧ s'.os = s₁.os ∧ AllBare s'.gens) s₁) :
 WalkO q loose XP YP l.row.toRowW d [] (fun f vs => PySem.call f vs) := by
 intro w s₀ s₁ mg mb G Y fa o pm cd doc dV kV ho hd hcd hD hmg hg args vals as hpre hlay hrd hwl hlo
 obtain rfl : dV = .none := Dflts.none hD hdf
 obtain rfl : kV = .none := Dflts.noKw hD
 obtain ⟨a, vs, ns, rfl, rfl, hobj, hints, hlen⟩ := zhb hn hpre hwl
 refine enter_call (codeAny_mono (call w s₀ s₁ mg mb fa o pm cd doc a vs ns G Y ho (fd_plain hd) hcd hmg hobj hints hlen hg) fun r s' hq => ?_)
 obtain ⟨rfl, h2, h3, h4⟩ := hq
 exact ⟨.inl ⟨.bool true, .bool true, [], rfl, fun _ => rfl, .bool true, zhn l _, fun _ => ⟨List.Pairwise.nil, fun _ hm => (nomatch hm)⟩⟩, h2, h3, h4⟩
section
variable {prog : Program} {w : World} {A : Around} {E : Value → Shared → Prop} {s : Shared} {K : Frag}
end
end Att
namespace L2
open PySem PySem.Spec PyProof.Rows
theorem zeB : ∀ {vs : List Value} {ns : List Int}, IntsAre vs ns → Vals (ns.map V.int) vs
 | _, _, .nil => .nil
 | _, _, .cons n t h => .cons ⟨t, rfl⟩ (zeB h)
def Only (H : Hp) : Prop := ∀ b, H b = none ∨ ∃ o xs, H b = some (.frz o (.lst xs))
theorem ziO {P : Program} {w : World} {K : PySem.W.Frag} {mg mb : Str → Option Value} {CX : CXT} {k : Nat} {fa a : Addr} {fd : FuncData} {x : Str} {sp : Sp} {s₁ : Shared} {vs : List Value} {ns : List Int}
 (KX : K.In s₁.heap) (hns : s₁.heap.Ns mainGlobals mg) (hb : s₁.heap.Ns builtinsNs mb) (hbb : ∀ x : Str, x ≠ "__name__" → mb x = bootBuiltins x) (hlim : s₁.heap.NoLimit) (hg : s₁.gens = #[])
 (ha : s₁.heap.get? a = some { cls := .type "list", data := .seq vs.toArray }) (hi : IntsAre vs ns) (hl : ns.length ≤ sizeLine) (hr : Room k callerA)
 (F : ∀ base : Heap, K.In base → base.Ns mainGlobals mg → FnOk P w K mg base CX k fa fd [x] sp) (hbind : ∀ (s : Shared) (u : Value), BindsTo s fd ⟨[u], []⟩ [(x, u)])
 (hsp : ∀ H : Hp, Only H → SqL K H a (ns.map V.int) → sp [.ref a] H (fun v _ => v = .bl true) fun _ _ _ => False)
 (hCX : ∀ H e s', CX [] H s₁ (fun _ _ _ => False) e s' → False) :
 codeAny (model P w) callerA (.call (.ref fa) ⟨[.ref a], []⟩) (fun r s' => r = .ok (.ret (.bool true)) ∧ OldK s₁.heap s'.heap ∧ s'.os = s₁.os ∧ AllBare s'.gens) s₁ := by
 have rv := zeB hi
 have lenV := hi.length
 have core : ∀ H : Hp, Only H → SqL K H a (ns.map V.int) → HOk P w H s₁.heap → (∀ b, H b ≠ none → b = a) → (H a ≠ none → K.lookup a = none) →
  codeAny (model P w) callerA (.call (.ref fa) ⟨[.ref a], []⟩) (fun r s' => r = .ok (.ret (.bool true)) ∧ OldK s₁.heap s'.heap ∧ s'.os = s₁.os ∧ AllBare s'.gens) s₁ := by
  intro H hO hS hok hA hK
  have base_of : ∀ {b : Addr} {o : Obj}, s₁.heap.get? b = some o → H b = none → (hidT s₁.heap H).get? b = some o := fun e n => ziR e n
  have noA : ∀ {b : Addr} {o : Obj} {es : Array DictEntry} {ep : Nat}, s₁.heap.get? b = some o → o.data = .dict es ep → H b = none := fun {b o es ep} e d => by
   cases q : H b with
   | none => rfl
   | some u =>
    have e' : b = a := hA b (by rw [q]; simp)
    subst e'
    rw [ha] at e; cases e
    have d' : Data.seq vs.toArray _ = Data.dict es ep := d
    cases d'
  have nsK : ∀ {b : Addr} {m : Str → Option Value}, s₁.heap.Ns b m → (hidT s₁.heap H).Ns b m := fun {b m} ⟨o, es, ep, e, d, r⟩ => ⟨o, es, ep, base_of e (noA e d), d, r⟩
  have hKb : K.In (hidT s₁.heap H) := fun b o e => base_of (KX b o e) (by
   cases q : H b with
   | none => rfl
   | some u =>
    have e' : b = a := hA b (by rw [q]; simp)
    subst e'
    rw [hK (by rw [q]; simp)] at e; cases e)
  have hM : Mod K mg (hidT s₁.heap H) := ⟨hKb, nsK hns, ⟨mb, nsK hb, hbb⟩, let ⟨mc, h1, h2⟩ := hlim; ⟨mc, nsK h1, h2⟩⟩
  have e0 : Env0 P w K mg (hidT s₁.heap H) callerA [] s₁ H := ⟨rfl, hM, fun b o e => zjN e, Nat.le_of_eq (zhR _ _), trivial, fun b hb => absurd (show b ∈ ([] : List Addr) from hb) (by simp), hok, .of_eq hg⟩
  refine codeAny_mono ((F _ hKb (nsK hns)).run callerA [] s₁ H ⟨[.ref a], []⟩ [.ref a] [.ref a] _ _ hr e0 (hbind s₁ (.ref a)) (.cons rfl .nil) (hsp H hO hS)) fun r s' h => ?_
  cases r with
  | error e => exact (hCX H e s' h).elim
  | ok fl =>
   cases fl with
   | next => exact False.elim h
   | brk => exact False.elim h
   | cont => exact False.elim h
   | ret u =>
    obtain ⟨v, H', os, bare, un, hok', r', q⟩ := h
    have q' : v = .bl true := q
    subst q'
    obtain rfl : u = Value.bool true := r'
    refine ⟨rfl, OldK.of_keep fun b o e => ?_, os, bare⟩
    cases q : H b with
    | none => exact un.keep b o e q (by intro z; exact absurd (show b ∈ ([] : List Addr) from z) (by simp)) (by simp)
    | some u =>
     rcases hO b with z | ⟨ob, xs, z⟩
     · rw [q] at z; cases z
     · have z2 := un.frzs b ob _ z
       obtain ⟨e1, _⟩ := hok b _ z
       obtain ⟨e2, _⟩ := hok' b _ z2
       rw [e] at e1; cases e1
       exact e2
 cases hk : K.lookup a with
 | some o =>
  have e := KX a o hk
  rw [ha] at e
  cases e
  refine core (fun _ => none) (fun _ => .inl rfl) (.inr ⟨_, vs.toArray, _, hk, rfl, rfl, rfl, by rw [List.size_toArray, lenV]; exact hl, by simpa using rv⟩) (fun b u z => by have z' : (none : Option HO) = some u := z; cases z') (fun b z => absurd rfl z) fun z => absurd rfl z
 | none =>
  refine core (fun b => if b = a then some (.frz { cls := .type "list", data := .seq vs.toArray } (.lst (ns.map V.int))) else none) (fun b => ?_) (.inl (.inr ⟨{ cls := .type "list", data := .seq vs.toArray }, if_pos rfl⟩)) (fun b u z => ?_) (fun b z => ?_) fun _ => hk
  · by_cases hb : b = a
    · exact .inr ⟨_, _, if_pos hb⟩
    · exact .inl (if_neg hb)
  · by_cases hb : b = a
    · have z' := (if_pos hb).symm.trans z
      cases z'
      subst hb
      exact ⟨ha, by rw [List.length_map]; exact hl, vs, _, rv, ha⟩
    · have z' := (if_neg hb).symm.trans z
      cases z'
  · by_cases hb : b = a
    · exact hb
    · exact absurd (if_neg hb) z
abbrev KOf {K : PySem.W.Frag} {h : Heap} (_ : K.In h) : PySem.W.Frag := K
theorem walk_of {l : PySem.W.OpenLaw} {n k : Nat} {q : Program} {loose : List Str} {XP : (Str → Option Value) → Heap → Prop} {YP : World → Heap → Prop} {d : DefRec} {K : Params → PySem.W.Frag} {CX : World → CXT} {sp : World → Sp} {x : Str}
 (hn : l.most = some n) (hn2 : n ≤ sizeLine) (hdf : d.params.defaults = []) (hr : Room k callerA)
 (hY : ∀ (w : World) (h : Heap), YP w h → (K w.params).In h)
 (F : ∀ (w : World) (mg : Str → Option Value) (fa : Addr) (h : Heap), (K w.params).In h → h.Ns mainGlobals mg → mg d.name = some (.ref fa) →
  ∃ fd : FuncData, (∀ (s : Shared) (u : Value), BindsTo s fd ⟨[u], []⟩ [(x, u)]) ∧
   ∀ base : Heap, (K w.params).In base → base.Ns mainGlobals mg → FnOk l.prog w (K w.params) mg base (CX w) k fa fd [x] (sp w))
 (hsp : ∀ (w : World) (H : Hp) (a : Addr) (ns : List Int), ns.length ≤ n → Only H → SqL (K w.params) H a (ns.map V.int) → sp w [.ref a] H (fun v _ => v = .bl true) fun _ _ _ => False)
 (hCX : ∀ (w : World) (H : Hp) (s : Shared) (e : Value) (s' : Shared), CX w [] H s (fun _ _ _ => False) e s' → False) :
 PySem.W.WalkO q loose XP YP l.row.toRowW d [] (fun f vs => PySem.call f vs) := by
 refine Att.attach_call hn hdf fun w s₀ s₁ mg mb fa o pm cd doc a vs ns G Y ho hd hcd hmg hobj hints hlen hg => ?_
 have KX := hY w _ Y
 obtain ⟨fd, hb, hF⟩ := F w mg fa _ KX G.T.g hmg
 exact ziO KX G.T.g G.T.b G.T.builtins G.T.nolimit hg hobj hints (Nat.le_trans hlen hn2) hr hF hb (fun H hO hS => hsp w H a ns hlen hO hS) fun H e s' => hCX w H s₁ e s'
def zbA (s : Stmt) : Arguments := match s with
 | .FunctionDef _ a _ _ _ _ _ _ _ _ => a
 | _ => { posonlyargs := [], args := [], vararg := none, kwonlyargs := [], kw_defaults := [], kwarg := none, defaults := [] }
def zbp (s : Stmt) : List Stmt := match s with
 | .FunctionDef _ _ b _ _ _ _ _ _ _ => b
 | _ => []
def zag (s : Stmt) : Scope := match s with
 | .FunctionDef _ _ _ _ _ _ sc _ _ _ => sc
 | _ => { kind := .function, names := [], isGenerator := false, isCoroutine := false }
abbrev CX0 : CXT := fun _ _ _ _ _ _ => False
abbrev E0 : XK := fun _ _ _ => False
theorem zku {X : Cx} : zie CX0 X E0 := fun _ _ _ _ _ _ _ h => h.elim
structure Fun (K : PySem.W.Frag) (x qual : Str) (st : Stmt) (f : Addr) (fd : FuncData) : Prop where
 ex : ∃ (oc : Value) (od : Option Addr) (kV doc pm : Value) (an : Option Addr) (cdv ct : Value) (osl : Array (Option Value)),
  fd = PySem.W.fnOf x qual (zbA st) (zbp st) (zag st) .none kV doc pm an cdv ct ∧ K.lookup f = some ⟨oc, od, .func fd, osl⟩ ∧ PySem.W.codeIn K cdv qual = true
 kp : PySem.W.keepIn K (.ref f) = true
section
variable {P : Program} {w : World} {K : PySem.W.Frag} {mg : Str → Option Value} {base : Heap}
theorem Fun.ok {x qual : Str} {st : Stmt} {f : Addr} {fd : FuncData} {N ps : List Str} {k : Nat} {sp : Sp} (F : Fun K x qual st f fd) (S : FnScope N ps (zag st)) (len : ∀ vs H Q E, sp vs H Q E → vs.length = ps.length)
 (hbody : ∀ (cdv : Value) (A : Around) (outer : List Env) (s : Shared) (H : Hp) (vs : List V) (Q : VK) (E : XK), Room k (A.deeper (envOfC qual (zag st) s.heap.objs.size f cdv)) → sp vs H Q E →
  ∃ t, PSs (cxOf CX0 P w K mg base N qual (zag st) f cdv A outer s H E).nox (zbp st) t ∧ t { nx := fun _ H' => Q .non H', rt := Q } (zeF N vs) H) : FnOk P w K mg base CX0 (k + 1) f fd ps sp := by
 obtain ⟨oc, od, kV, doc, pm, an, cdv, ct, osl, rfl, lk, hcd⟩ := F.ex
 refine zlg lk hcd S len fun A outer s H vs Q E hr hsp => ?_
 obtain ⟨t, h, q⟩ := hbody cdv A outer s H vs Q E hr hsp
 exact ⟨t, h.nox, q⟩
theorem Fun.binds {x qual : Str} {st : Stmt} {f : Addr} {fd : FuncData} {ps : List Str} (F : Fun K x qual st f fd)
 (h : ∀ (kV doc pm : Value) (an : Option Addr) (cdv ct : Value) (us : List Value), us.length = ps.length → bindArgs (PySem.W.fnOf x qual (zbA st) (zbp st) (zag st) .none kV doc pm an cdv ct) ⟨us, []⟩ = pure (ps.zip us)) : Binds K fd ps [] := by
 obtain ⟨oc, od, kV, doc, pm, an, cdv, ct, osl, rfl, lk, hcd⟩ := F.ex
 exact .all (h kV doc pm an cdv ct)
theorem zaE {x qual : Str} {st : Stmt} {f : Addr} {oc : Value} {od an : Option Addr} {osl : Array (Option Value)} {kV doc pm cdv ct : Value} (l : K.lookup f = some ⟨oc, od, .func (PySem.W.fnOf x qual (zbA st) (zbp st) (zag st) .none kV doc pm an cdv ct), osl⟩)
 (c : PySem.W.codeIn K cdv qual = true) (k : PySem.W.keepIn K (.ref f) = true) : Fun K x qual st f (PySem.W.fnOf x qual (zbA st) (zbp st) (zag st) .none kV doc pm an cdv ct) := ⟨⟨oc, od, kV, doc, pm, an, cdv, ct, osl, rfl, l, c⟩, k⟩
end
theorem zkP {A : Around} {k : Nat} (hr : Room k A) : A.units + 1 < cLine := Nat.lt_of_le_of_lt (Nat.add_le_add_left (by decide : 1 ≤ 64) _) hr.units
theorem zav {n : Nat} (h : n ≤ 1000) : n < sizeLine := Nat.lt_of_le_of_lt h (by decide)
section
variable {X : Cx}
theorem pv (i : Nat) {x : Str} {pos : Pos} (hN : X.N[i]? = some x := by rfl) (hv : Vis X.env.scope x := by first | exact Or.inl rfl | exact Or.inr (Or.inl rfl) | exact Or.inr (Or.inr rfl)) (hd : (x == ("__debug__" : Str)) = false := by decide)
 (hcd : (x == ("__classdict__" : Str)) = false := by decide) : PE X (.Name x pos) (tVar i) := zkr hN hv hd hcd
end
theorem iteF {A B : Prop} (h : B) : if false = true then A else B := by
 rw [if_neg Bool.false_ne_true]
 exact h
theorem iteT {A B : Prop} (h : A) : if true = true then A else B := by
 rw [if_pos rfl]
 exact h
theorem ite2 {c A B : Prop} [Decidable c] (h1 : c → A) (h2 : ¬ c → B) : if c then A else B := by
 by_cases h : c
 · rw [if_pos h]
   exact h1 h
 · rw [if_neg h]
   exact h2 h
def Same (H H' : Hp) : Prop := ∀ b o, H b = some o → H' b = some o
theorem Same.refl (H : Hp) : Same H H := fun _ _ h => h
theorem Same.trans {H H1 H2 : Hp} (a : Same H H1) (b : Same H1 H2) : Same H H2 := fun c o h => b c o (a c o h)
theorem Same.free {H H' : Hp} (e : Same H H') {l : Addr} (h : H' l = Option.none) : H l = Option.none := by
 cases q : H l with
 | none => rfl
 | some o =>
  rw [e l o q] at h
  cases h
theorem Same.seq {K : PySem.W.Frag} {H H' : Hp} {a : Addr} {xs : List V} (e : Same H H') (h : SqL K H a xs) : SqL K H' a xs := by
 rcases h with (h | ⟨o, h⟩) | h
 · exact .inl (.inl (e _ _ h))
 · exact .inl (.inr ⟨o, e _ _ h⟩)
 · exact .inr h
section
variable {X : Cx}
end
section
variable {κ : Type} [DecidableEq κ]
end
def lcx (X : Cx) (N' : List Str) (scope : Scope) (cl : List (Str × Addr)) (C : Addr) (s₀ : Shared) (H₀ : Hp) (ex : List Addr) : Cx :=
 { prog := X.prog, w := X.w, K := X.K, mg := X.mg, base := X.base, A := X.A, N := N', s₀ := s₀, H₀ := H₀, env := compEnvC scope cl C X.env, outer := X.stack, stack := X.stack, ex := ex, fn := fun x => scope.names.lookup x == some .cell, calm := X.calm, pn := [], xe := fun _ _ => False }
abbrev Cap := List (Option Nat)
def inn (js : Cap) (σ : St) : St := js.map fun o => o.bind fun j => (σ[j]?).join
theorem zj2 {env : Env} (has : ∀ x, (env.kindOf x = some .cell ∨ env.kindOf x = some .free) → ∃ c, env.cells.lookup x = some c) :
 ∀ (names : List (Str × NameKind)) (acc : List (Str × Addr)), (∀ p ∈ names, p.2 = .free → env.kindOf p.1 = some .cell ∨ env.kindOf p.1 = some .free) → (∀ x c, acc.lookup x = some c → env.cells.lookup x = some c) →
  ∃ cl, (forIn names acc (fun (p : Str × NameKind) (cs : List (Str × Addr)) => (do
   if p.2 == NameKind.free then
    let c ← cellOf env p.1
    pure (ForInStep.yield ((p.1, c) :: cs))
   else pure (ForInStep.yield cs) : Sem (ForInStep (List (Str × Addr)))))) = pure cl ∧ (∀ x c, cl.lookup x = some c → env.cells.lookup x = some c) ∧
   (∀ x, (acc.lookup x).isSome = true → (cl.lookup x).isSome = true) ∧ ∀ p ∈ names, p.2 = .free → (cl.lookup p.1).isSome = true := by
 intro names
 induction names with
 | nil => intro acc _ ha; exact ⟨acc, rfl, ha, fun _ h => h, fun _ h => nomatch h⟩
 | cons p r ih =>
  intro acc hn ha
  obtain ⟨n, k⟩ := p
  rw [List.forIn_cons]
  by_cases hk : k = .free
  · subst hk
    obtain ⟨c, hc⟩ := has n (hn (n, .free) List.mem_cons_self rfl)
    have e : cellOf env n = (pure c : Sem Addr) := by
     unfold cellOf
     rw [hc]
    obtain ⟨cl, h1, h2, h3, h4⟩ := ih ((n, c) :: acc) (fun q hq => hn q (List.mem_cons_of_mem _ hq)) (fun x c' hx => by
     rw [List.lookup_cons] at hx
     cases hb : x == n with
     | true =>
      rw [hb] at hx
      cases hx
      rw [show x = n from eq_of_beq hb]
      exact hc
     | false =>
      rw [hb] at hx
      exact ha x c' hx)
    refine ⟨cl, ?_, h2, fun x hx => h3 x ?_, fun q hq hf => ?_⟩
    · simp only [beq_self_eq_true, if_true, e]
      exact h1
    · rw [List.lookup_cons]
      cases hb : x == n with
      | true => rfl
      | false => exact hx
    · rcases List.mem_cons.mp hq with rfl | hq
      · exact h3 _ (by simp [List.lookup_cons])
      · exact h4 q hq hf
  · have hb : (k == NameKind.free) = false := by simpa using hk
    obtain ⟨cl, h1, h2, h3, h4⟩ := ih acc (fun q hq => hn q (List.mem_cons_of_mem _ hq)) ha
    refine ⟨cl, ?_, h2, h3, fun q hq hf => ?_⟩
    · simp only [hb, Bool.false_eq_true, if_false]
      exact h1
    · rcases List.mem_cons.mp hq with rfl | hq
      · exact absurd hf hk
      · exact h4 q hq hf
theorem zew {env : Env} {scope : Scope} (has : ∀ x, (env.kindOf x = some .cell ∨ env.kindOf x = some .free) → ∃ c, env.cells.lookup x = some c)
 (hn : ∀ p ∈ scope.names, p.2 = .free → env.kindOf p.1 = some .cell ∨ env.kindOf p.1 = some .free) :
 ∃ cl, closureFor scope env = pure cl ∧ (∀ x c, cl.lookup x = some c → env.cells.lookup x = some c) ∧ ∀ p ∈ scope.names, p.2 = .free → (cl.lookup p.1).isSome = true := by
 obtain ⟨cl, h1, h2, _, h4⟩ := zj2 has scope.names [] hn (fun _ _ h => nomatch h)
 refine ⟨cl, ?_, h2, h4⟩
 unfold closureFor
 show (do let cs ← forIn scope.names [] _; pure cs) = _
 refine Eq.trans ?_ h1
 simp only [bind_pure]
section
variable {prog : Program} {w : World} {A : Around} {E : Value → Shared → Prop} {R : Result → Shared → Prop} {s : Shared}
theorem zf0 {elt target iter : Expr} {ifs : List Expr} {scope : Scope} {pos : Pos} {it acc : Value} {env : Env} (I : Nat → Shared → Prop)
 (turn : ∀ n s, I n s → wpAny (model prog w) A (pyNext it) (fun r s₁ => match r with
  | none => R (.ok .next) s₁
  | some v => wpAny (model prog w) A (letOwnedTupleGo target it v) (fun _ s₁' => wpAny (model prog w) A (assign target env v) (fun _ s₂ =>
   wpAny (model prog w) A (forIn ifs true fun c r => if r = true then do let ok ← isTrue c env (eval c env); pure (ForInStep.yield ok) else pure (ForInStep.yield r)) (fun ok s₃ =>
    if ok = true then wpAny (model prog w) A (eval elt env) (fun x s₄ =>
     wpAny (model prog w) A (call (.builtin "list.append") [acc, x]) (fun _ s₅ => ∃ m, m < n ∧ I m s₅) (fun _ _ => False) s₄) (fun _ _ => False) s₃
    else ∃ m, m < n ∧ I m s₃) (fun _ _ => False) s₂) (fun _ _ => False) s₁') (fun _ _ => False) s₁) (fun _ _ => False) s)
 (n : Nat) (h : I n s) :
 codeAny (model prog w) A (.compLoop (.ListComp elt [⟨target, iter, ifs, 0⟩] scope pos) 0 it acc env) R s := by
 refine codeAny_loop rfl I (fun n s hI => ?_) n h
 show wpAny _ A ((compTurn (.ListComp elt [⟨target, iter, ifs, 0⟩] scope pos) 0 it acc env).onRaise (fun x => do noteFrame x env; theTreesLotGoes x)) _ _ s
 refine wpAny_noted ?_
 rw [compTurn_list]
 refine wpAny_bind (wpAny_standAt (wpAny_bind (wpAny_mono (turn n s hI) (fun r s₁ h₁ => ?_) fun _ _ h' => h'.elim)))
 cases r with
 | none => exact wpAny_pure h₁
 | some v =>
  refine wpAny_bind (wpAny_mono h₁ (fun _ s₁' h₁' => ?_) fun _ _ h' => h'.elim)
  refine wpAny_bind (wpAny_mono h₁' (fun _ s₂ h₂ => wpAny_bind (wpAny_mono h₂ (fun ok s₃ h₃ => ?_) fun _ _ h' => h'.elim)) fun _ _ h' => h'.elim)
  cases ok with
  | false => exact wpAny_pure ⟨rfl, h₃⟩
  | true =>
   exact wpAny_bind (wpAny_bind (wpAny_mono h₃ (fun x s₄ h₄ => wpAny_bind (wpAny_mono h₄ (fun _ s₅ h₅ => wpAny_pure (wpAny_pure ⟨rfl, h₅⟩)) fun _ _ h' => h'.elim)) fun _ _ h' => h'.elim))
end
def PIfs (X : Cx) (ifs : List Expr) (t : TT) : Prop :=
 ∀ (pins : List (Addr × Obj)) (s : Shared) (σ : St) (H : Hp) (Q : Bool → Hp → Prop), Inv X pins σ H s → t σ H Q →
  wpAny (model X.prog X.w) X.A (forIn ifs true fun c r => if r = true then do let ok ← isTrue c X.env (eval c X.env); pure (ForInStep.yield ok) else pure (ForInStep.yield r)) (TP X pins σ Q) X.xe s
def tYes : TT := fun _ H Q => Q true H
theorem zbt {X : Cx} : PIfs X [] tYes := fun _ _ _ H _ I h => wpAny_tests_nil ⟨H, I, h⟩
theorem zcE {X : Cx} {c : Expr} {t : TT} (h : PT X c t) : PIfs X [c] t := fun pins s σ H Q I hw => wpAny_tests_one (h pins s σ H Q I hw)
def zcw (J : It) (p : Addr) (js : Cap) (g : TG) (tc : TT) (te : TE) (σ : St) (H : Hp) (Q : VK) : Prop :=
 ∃ W : Nat → Nat → St → List V → Hp → Prop, (∃ m, W 0 m (inn js σ) [] (upd H p (.lst []))) ∧ ∀ i m σ' ys H, W i m σ' ys H → H p = some (.lst ys) ∧
  ((J.stop i H ∧ Q (.ref p) H) ∨ (J.go i H ∧ ys.length < sizeLine ∧ ∀ x H', J.yld i H x H' → g x σ' H' fun σ2 H2 => tc σ2 H2 fun b H3 =>
    if b = true then te σ2 H3 fun y H4 => H4 p = some (.lst ys) ∧ ∃ m', m' < m ∧ W (i + 1) m' σ2 (ys ++ [y]) (upd H4 p (.lst (ys ++ [y])))
    else ∃ m', m' < m ∧ W (i + 1) m' σ2 ys H3))
def tLC (wi : TI) (js : Cap) (g : TG) (tc : TT) (te : TE) : TE := fun σ H Q => wi σ H fun J H1 => ∀ p, H1 p = none → zcw J p js g tc te σ H1 Q
structure CapOk (X : Cx) (N' : List Str) (js : Cap) (scope : Scope) : Prop where
 len : js.length = N'.length
 kind : scope.kind = .function
 cells : ∀ p ∈ scope.names, p.2 = .cell → scope.names.lookup p.1 = some .cell
 names : ∀ p ∈ scope.names, p.2 = .local → scope.names.lookup p.1 = some .local
 free : ∀ p ∈ scope.names, p.2 = .free → X.env.kindOf p.1 = some .cell ∨ X.env.kindOf p.1 = some .free
 cap : ∀ (i j : Nat), js[i]? = some (some j) → ∃ x, N'[i]? = some x ∧ X.N[j]? = some x ∧ scope.names.lookup x = some .free
theorem zcW {names : List (Str × NameKind)} {x : Str} {k : NameKind} (h : names.lookup x = some k) : (x, k) ∈ names := by
 induction names with
 | nil => cases h
 | cons p r ih =>
  obtain ⟨n, k'⟩ := p
  rw [List.lookup_cons] at h
  cases hb : x == n with
  | true =>
   rw [hb] at h
   cases h
   rw [show x = n from eq_of_beq hb]
   exact List.mem_cons_self
  | false =>
   rw [hb] at h
   exact List.mem_cons_of_mem _ (ih h)
theorem zc4 {scope : Scope} {env : Env} {x : Str} {k : NameKind} (h : (relabel scope env).names.lookup x = some k) : ∃ k0, scope.names.lookup x = some k0 ∧ (k = k0 ∨ (k0 = .free ∧ k = .cell)) := by
 have go : ∀ (names : List (Str × NameKind)), (names.map fun (p : Str × NameKind) => if (p.2 == NameKind.free && env.scope.kind == .function && env.kindOf p.1 == some .cell) then (p.1, NameKind.cell) else (p.1, p.2)).lookup x = some k →
  ∃ k0, names.lookup x = some k0 ∧ (k = k0 ∨ (k0 = .free ∧ k = .cell)) := by
  intro names
  induction names with
  | nil => intro h; cases h
  | cons p r ih =>
   obtain ⟨n, k'⟩ := p
   intro h
   rw [List.map_cons] at h
   by_cases hc : (k' == NameKind.free && env.scope.kind == .function && env.kindOf n == some .cell) = true
   · rw [if_pos hc] at h
     rw [List.lookup_cons] at h ⊢
     cases hb : x == n with
     | true =>
      rw [hb] at h
      cases h
      have : k' = .free := by
       cases k' <;> first | rfl | (simp at hc)
      exact ⟨k', rfl, .inr ⟨this, rfl⟩⟩
     | false =>
      rw [hb] at h
      exact ih h
   · rw [if_neg hc] at h
     rw [List.lookup_cons] at h ⊢
     cases hb : x == n with
     | true =>
      rw [hb] at h
      cases h
      exact ⟨k', rfl, .inl rfl⟩
     | false =>
      rw [hb] at h
      exact ih h
 exact go scope.names h
theorem zeJ {scope : Scope} {env : Env} {x : Str} (h : scope.names.lookup x = some .free) : (relabel scope env).names.lookup x = some .cell ∨ (relabel scope env).names.lookup x = some .free := by
 have go : ∀ (names : List (Str × NameKind)), names.lookup x = some .free → (names.map fun (p : Str × NameKind) => if (p.2 == NameKind.free && env.scope.kind == .function && env.kindOf p.1 == some .cell) then (p.1, NameKind.cell) else (p.1, p.2)).lookup x = some .cell ∨
  (names.map fun (p : Str × NameKind) => if (p.2 == NameKind.free && env.scope.kind == .function && env.kindOf p.1 == some .cell) then (p.1, NameKind.cell) else (p.1, p.2)).lookup x = some .free := by
  intro names
  induction names with
  | nil => intro h; cases h
  | cons p r ih =>
   obtain ⟨n, k'⟩ := p
   intro h
   rw [List.map_cons]
   rw [List.lookup_cons] at h
   by_cases hc : (k' == NameKind.free && env.scope.kind == .function && env.kindOf n == some .cell) = true
   · rw [if_pos hc, List.lookup_cons]
     cases hb : x == n with
     | true => exact .inl rfl
     | false =>
      rw [hb] at h
      exact ih h
   · rw [if_neg hc, List.lookup_cons]
     cases hb : x == n with
     | true =>
      rw [hb] at h
      exact .inr h
     | false =>
      rw [hb] at h
      exact ih h
 exact go scope.names h
theorem zbv : ∀ (names : List (Str × NameKind)) (n : Nat) (acc : List (Str × Addr)), cellsFrom n names acc = cellsFrom n names [] ++ acc
 | [], _, _ => rfl
 | (x, k) :: r, n, acc => by
  unfold cellsFrom
  split
  · rw [zbv r _ ((x, n) :: acc), zbv r _ [(x, n)], List.append_assoc]; rfl
  · exact zbv r n acc
theorem zbV {x : Str} {c : Addr} : ∀ (names : List (Str × NameKind)) (n : Nat) (acc : List (Str × Addr)), (x, c) ∈ cellsFrom n names acc → (x, NameKind.cell) ∈ names ∨ (x, c) ∈ acc
 | [], _, _, h => .inr h
 | (y, k) :: r, n, acc, h => by
  unfold cellsFrom at h
  split at h
  · rename_i hk
    rcases zbV r _ _ h with z | z
    · exact .inl (List.mem_cons_of_mem _ z)
    · rcases List.mem_cons.mp z with z | z
      · cases z
        rw [show k = .cell from eq_of_beq hk]
        exact .inl List.mem_cons_self
      · exact .inr z
  · rcases zbV r _ _ h with z | z
    · exact .inl (List.mem_cons_of_mem _ z)
    · exact .inr z
structure OwnCells (scope : Scope) (cl0 cl : List (Str × Addr)) (lo : Nat) (h₁ : Heap) : Prop where
 own : ∀ x c, cl.lookup x = some c → (scope.names.lookup x = some .cell → lo < c ∧ h₁.IsCell c none) ∧ (scope.names.lookup x ≠ some .cell → cl0.lookup x = some c)
 has : ∀ x, scope.names.lookup x = some .cell ∨ (cl0.lookup x).isSome = true → (cl.lookup x).isSome = true
 inj : ∀ x y c, scope.names.lookup x = some .cell → scope.names.lookup y = some .cell → cl.lookup x = some c → cl.lookup y = some c → x = y
theorem zbO {M : Model} {A : Around} {E : Value → Shared → Prop} {s : Shared} {scope : Scope} {globals : Addr} {cl0 : List (Str × Addr)} {qual : Str} {env : Env} {Q : Env → Shared → Prop} (ok : ∀ p ∈ scope.names, p.2 = .cell → scope.names.lookup p.1 = some .cell)
 (hQ : ∀ (cl : List (Str × Addr)) (h₁ : Heap), (∃ m, h₁.Ns s.heap.objs.size m) → (∀ b u, s.heap.get? b = some u → h₁.get? b = some u) → OwnCells scope cl0 cl s.heap.objs.size h₁ →
  Q (newEnv scope s.heap.objs.size globals cl qual none .none (some env) builtinsNs) { s with heap := h₁, toks := s.toks + ([] : List (Str × Value)).length }) :
 wpAny M A (newFunctionEnv scope globals cl0 [] qual none .none (some env)) Q E s := by
 simp only [newFunctionEnv, Option.isSome_some, if_true]
 refine wpAny_bind (wpAny_alloc ?_)
 refine wpAny_bind (wpAny_layCells _ (fun name kind cells => by cases hkc : kind == NameKind.cell <;> simp [hkc]) _ _ _ _ ?_)
 have ck := cellsFrom_ok scope.names (s.heap.push { cls := .type "dict", data := .dict #[] }) (s.heap.objs.size + 1) [] ⟨fun _ _ hm => (nomatch hm), List.Pairwise.nil⟩ (by rw [Heap.size_push]; exact Nat.le_refl _)
 rw [Heap.size_push] at ck
 rw [show ({ s with heap := s.heap.push { cls := .type "dict", data := .dict #[] } } : Shared).heap.objs.size = s.heap.objs.size + 1 from Heap.size_push ..]
 rw [List.forIn_nil]
 refine wpAny_bind (wpAny_pure (wpAny_pure ?_))
 rw [zbv]
 refine hQ _ _ ⟨_, (Heap.Ns.new s.heap (.type "dict")).keeps (pushCells_keeps _ _)⟩ (fun b o e => pushCells_keeps _ _ b o (Heap.get?_push_of_some _ e)) ?_
 have lk : ∀ x, (cellsFrom (s.heap.objs.size + 1) scope.names [] ++ cl0).lookup x = ((cellsFrom (s.heap.objs.size + 1) scope.names []).lookup x).or (cl0.lookup x) := fun x => List.lookup_append
 have cn : ∀ x c, (cellsFrom (s.heap.objs.size + 1) scope.names []).lookup x = some c → scope.names.lookup x = some .cell := fun x c e => by
  rcases zbV _ _ _ (mem_of_lookup e) with z | z
  · exact ok _ z rfl
  · cases z
 refine ⟨fun x c e => ⟨fun hx => ?_, fun hx => ?_⟩, fun x hx => ?_, fun x y c hx hy e1 e2 => ?_⟩
 · rw [lk] at e
   have q := PySem.W.cellsFrom_some scope.names (s.heap.objs.size + 1) [] (.inl hx)
   cases z : (cellsFrom (s.heap.objs.size + 1) scope.names []).lookup x with
   | none => rw [z] at q; cases q
   | some c' =>
    rw [z] at e
    cases e
    have := ck.empty _ _ (mem_of_lookup z)
    exact ⟨this.2, this.1⟩
 · rw [lk] at e
   cases z : (cellsFrom (s.heap.objs.size + 1) scope.names []).lookup x with
   | none => rw [z] at e; exact e
   | some c' => exact absurd (cn x c' z) hx
 · rw [lk]
   rcases hx with hx | hx
   · have q := PySem.W.cellsFrom_some scope.names (s.heap.objs.size + 1) [] (.inl hx)
     cases z : (cellsFrom (s.heap.objs.size + 1) scope.names []).lookup x with
     | none => rw [z] at q; cases q
     | some c' => rfl
   · cases z : (cellsFrom (s.heap.objs.size + 1) scope.names []).lookup x with
     | none => exact hx
     | some c' => rfl
 · rw [lk] at e1 e2
   have go : ∀ x, scope.names.lookup x = some .cell → ((cellsFrom (s.heap.objs.size + 1) scope.names []).lookup x).or (cl0.lookup x) = some c → (x, c) ∈ cellsFrom (s.heap.objs.size + 1) scope.names [] := fun x hx e => by
    have q := PySem.W.cellsFrom_some scope.names (s.heap.objs.size + 1) [] (.inl hx)
    cases z : (cellsFrom (s.heap.objs.size + 1) scope.names []).lookup x with
    | none => rw [z] at q; cases q
    | some c' => rw [z] at e; cases e; exact mem_of_lookup z
   exact name_of_addr ck.apart (go x hx e1) (go y hy e2)
section
variable {X : Cx} {pins : List (Addr × Obj)} {σ : St} {H : Hp} {s : Shared}
theorem zdG {N' : List Str} {js : Cap} {scope : Scope} {cl0 cl : List (Str × Addr)} {fp : List Addr} {h₁ : Heap} {t' : Nat} (ok : CapOk X N' js scope) (I : Inv X pins σ H s)
 (h2' : ∀ x c, cl0.lookup x = some c → X.env.cells.lookup x = some c) (h3' : ∀ p ∈ scope.names, p.2 = .free → (cl0.lookup p.1).isSome = true)
 (hf : ∀ b ∈ fp, FpOk X pins H b) (hlt : ∀ b ∈ fp, b < s.heap.objs.size)
 (k : ∀ b u, s.heap.get? b = some u → h₁.get? b = some u) (hn : ∃ m, h₁.Ns s.heap.objs.size m) (oc : OwnCells scope cl0 cl s.heap.objs.size h₁) :
 Inv (lcx X N' scope cl s.heap.objs.size s H fp) [] (inn js σ) H { s with heap := h₁, toks := t' } := by
 have fresh : H s.heap.objs.size = none := I.hok.fresh (Nat.le_refl _)
 have h2 : ∀ x c, cl.lookup x = some c → (scope.names.lookup x = some .cell ∧ s.heap.objs.size < c ∧ h₁.IsCell c none) ∨ X.env.cells.lookup x = some c := fun x c e => by
  by_cases hx : scope.names.lookup x = some .cell
  · exact .inl ⟨hx, (oc.own x c e).1 hx⟩
  · exact .inr (h2' x c ((oc.own x c e).2 hx))
 have h3 : ∀ p ∈ scope.names, p.2 = .free → (cl.lookup p.1).isSome = true := fun p hp e => oc.has _ (.inr (h3' p hp e))
 have kind_of : ∀ x, ((relabel scope X.env).names.lookup x = some .cell ∨ (relabel scope X.env).names.lookup x = some .free) → scope.names.lookup x = some .cell ∨ scope.names.lookup x = some .free := fun x hx => by
  rcases hx with hx | hx
  · obtain ⟨k0, e, z⟩ := zc4 hx
    rcases z with z | ⟨z, _⟩
    · subst z; exact .inl e
    · subst z; exact .inr e
  · obtain ⟨k0, e, z⟩ := zc4 hx
    rcases z with z | ⟨z, z'⟩
    · subst z; exact .inr e
    · cases z'
 have clt : ∀ x c, X.env.cells.lookup x = some c → c < s.heap.objs.size := fun x c e => let ⟨v, hv⟩ := I.cell x c e; hv.lt
 have okc : (lcx X N' scope cl s.heap.objs.size s H fp).Ok := by
  refine ⟨I.ok.mod, ok.kind, I.ok.glob, I.ok.blt, Nat.le_refl _, fun x y c e1 e2 => ?_, fun x hx => ?_, fun x c hx e => ?_, I.ok.hd, I.ok.frames, .inl rfl, fun b hb => ⟨Nat.ne_of_lt (hlt b hb), fun x c e => ?_⟩, I.bs, Nat.le_trans I.ok.bsz I.sz, fun b o e hb => ?_, fun b hb hb' => ?_, I.stack, I.stkFree⟩
  · rcases h2 x c e1 with ⟨k1, l1, _⟩ | l1
    · rcases h2 y c e2 with ⟨k2, l2, _⟩ | l2
      · exact oc.inj x y c k1 k2 e1 e2
      · exact absurd l1 (Nat.lt_asymm (clt y c l2))
    · rcases h2 y c e2 with ⟨k2, l2, _⟩ | l2
      · exact absurd l2 (Nat.lt_asymm (clt x c l1))
      · exact I.ok.inj x y c l1 l2
  · have z : (cl.lookup x).isSome = true := by
     rcases kind_of x hx with e | e
     · exact oc.has x (.inl e)
     · exact h3 _ (zcW e) rfl
    cases q : cl.lookup x with
    | none => rw [q] at z; cases z
    | some c => exact ⟨c, q⟩
  · exact Nat.le_of_lt ((oc.own x c e).1 (eq_of_beq hx)).1
  · rcases h2 x c e with ⟨_, l, _⟩ | l
    · exact fun z => Nat.lt_asymm (hlt b hb) (z ▸ l)
    · exact (hf b hb).2.2.2.2.1 x c l
  · rcases (hf b hb).2.2.2.1 with z | z
    · exact I.ok.noex b o e z
    · exact absurd (Nat.lt_of_lt_of_le (Heap.lt_size e) (Nat.le_trans I.ok.bsz z)) (Nat.lt_irrefl _)
  · rcases List.mem_cons.mp (I.stkSub b hb') with z | z
    · exact (hf b hb).2.1 z
    · exact (hf b hb).2.2.1 z
 obtain ⟨m, hn⟩ := hn
 refine ⟨okc, rfl, I.bare, Un.kept k, ⟨m, hn, fun i x v e1 e2 e3 => ?_⟩, fun x c e => ?_, fresh, fun x c e => ?_, (fun p hp => nomatch hp), I.hok.kept k, by show (inn js σ).length = N'.length; unfold inn; rw [List.length_map]; exact ok.len⟩
 · have e2 : (inn js σ)[i]? = some (some v) := e2
   unfold inn at e2
   rw [List.getElem?_map] at e2
   cases q : js[i]? with
   | none => rw [q] at e2; cases e2
   | some o =>
    rw [q] at e2
    cases o with
    | none => cases e2
    | some j =>
     obtain ⟨x', n1, n2, n3⟩ := ok.cap i j q
     have e1 : N'[i]? = some x := e1
     rw [n1] at e1
     cases e1
     have e2 : (σ[j]?).join = some v := Option.some.inj e2
     have e2' : σ[j]? = some (some v) := by
      cases q2 : σ[j]? with
      | none => rw [q2] at e2; cases e2
      | some o2 => rw [q2] at e2; exact congrArg some e2
     obtain ⟨mo, hno, hlo⟩ := I.loc
     have kx := ok.free _ (zcW n3) rfl
     have vis : Vis X.env.scope x := by
      rcases kx with z | z
      · exact .inr (.inl z)
      · exact .inr (.inr z)
     obtain ⟨u, r, l⟩ := hlo j x v n2 e2' vis
     refine ⟨u, r, .inr ⟨zeJ n3, ?_⟩⟩
     rcases l with ⟨z, _⟩ | ⟨_, c, hc, hcell⟩
     · rcases kx with y | y <;> (rw [z] at y; cases y)
     · have z := h3 _ (zcW n3) rfl
       cases q3 : cl.lookup x with
       | none => rw [q3] at z; cases z
       | some c' =>
        have := h2' x c' ((oc.own x c' q3).2 (by rw [n3]; decide))
        rw [hc] at this
        cases this
        exact ⟨c, q3, hcell.keeps k⟩
 · rcases h2 x c e with ⟨_, _, l⟩ | l
   · exact ⟨_, l⟩
   · obtain ⟨v, hv⟩ := I.cell x c l
     exact ⟨v, hv.keeps k⟩
 · rcases h2 x c e with ⟨_, l, _⟩ | l
   · exact I.hok.fresh (Nat.le_of_lt l)
   · exact I.freeC x c l
end
section
variable {X : Cx} {tg iter elt : Expr} {ifs : List Expr} {wi : TI} {js : Cap} {g : TG} {tc : TT} {te : TE} {N' : List Str} {scope : Scope} {pos : Pos}
theorem zgn {pins : List (Addr × Obj)} {σ : St} {H : Hp} {s : Shared} {E : Value → Shared → Prop} {Q : VK} {J : It} {it : Addr} {fp : List Addr} {tn : Nat → Heap → Prop} {cl : List (Str × Addr)}
 (hc : X.calm = true) (ok : CapOk X N' js scope)
 (h2 : ∀ x c, cl.lookup x = some c → X.env.cells.lookup x = some c) (h3 : ∀ p ∈ scope.names, p.2 = .free → (cl.lookup p.1).isSome = true)
 (hg : ∀ cl C s₀ H₀ ex, PG (lcx X N' scope cl C s₀ H₀ ex) tg g) (ht : ∀ cl C s₀ H₀ ex, PIfs (lcx X N' scope cl C s₀ H₀ ex) ifs tc) (he : ∀ cl C s₀ H₀ ex, PE (lcx X N' scope cl C s₀ H₀ ex) elt te)
 (I : Inv X pins σ H s) (T : Turn X.prog X.w X.K tg J fp it tn) (st : tn 0 s.heap) (hf : ∀ b ∈ fp, FpOk X pins H b)
 (hw : ∀ p, H p = none → zcw J p js g tc te σ H Q) :
 wpAny (model X.prog X.w) X.A (newList []) (fun acc s₃ => wpAny (model X.prog X.w) X.A (newFunctionEnv scope X.env.globals cl [] X.env.qual none .none (some X.env)) (fun cenv s₄ =>
  codeAny (model X.prog X.w) X.A (.compStart (.ListComp elt [⟨tg, iter, ifs, 0⟩] scope pos) 0 (.ref it) acc { cenv with scope := relabel scope X.env })
   (fun r s' => r = .ok .next ∧ (∃ m, s'.heap.Ns cenv.locals m) ∧ ∃ v H', RelV v acc ∧ Inv X pins σ H' s' ∧ FpOk X pins H' cenv.locals ∧ Q v H') s₄) E s₃) E s := by
 have objs := T.obj _ _ st
 refine wpAny_newObj_type ?_ (by show 0 ≤ sizeLine; decide)
 obtain ⟨W, ⟨m0, w0⟩, turn⟩ := hw s.heap.objs.size (I.hok.fresh (Nat.le_refl _))
 generalize hp : s.heap.objs.size = p at *
 have kp : ∀ b u, s.heap.get? b = some u → (s.heap.push { cls := .type "list", dict := none, data := .seq ([] : List Value).toArray }).get? b = some u := fun b u e => Heap.get?_push_of_some _ e
 have I3 : Inv X pins σ (upd H p (.lst [])) { s with heap := s.heap.push { cls := .type "list", dict := none, data := .seq ([] : List Value).toArray } } := by
  refine I.laid (t' := s.toks) kp (by rw [hp]; exact Nat.le_refl _) ⟨Nat.zero_le _, [], 0, .nil, ?_⟩
  have := Heap.get?_push_size s.heap (o := { cls := .type "list", dict := none, data := .seq ([] : List Value).toArray }) rfl
  rw [hp] at this
  exact this
 have fne : ∀ b ∈ fp, b ≠ p := fun b hb => by
  obtain ⟨o, e, _⟩ := objs b hb
  have := Heap.lt_size e
  rw [← hp]
  exact Nat.ne_of_lt this
 have hf3 : ∀ b ∈ fp, FpOk X pins (upd H p (.lst [])) b := fun b hb => ⟨by rw [zak (fne b hb)]; exact (hf b hb).1, (hf b hb).2⟩
 have st3 : tn 0 (s.heap.push { cls := .type "list", dict := none, data := .seq ([] : List Value).toArray }) := T.keep _ _ _ st fun b _ o e => kp b o e
 have lt3 : ∀ b ∈ fp, b < (s.heap.push { cls := .type "list", dict := none, data := .seq ([] : List Value).toArray }).objs.size := fun b hb => by
  obtain ⟨o, e, _⟩ := objs b hb
  exact Heap.lt_size (kp b o e)
 generalize hs3 : ({ s with heap := s.heap.push { cls := .type "list", dict := none, data := .seq ([] : List Value).toArray } } : Shared) = s3 at *
 have eh : s.heap.push { cls := .type "list", dict := none, data := .seq ([] : List Value).toArray } = s3.heap := by rw [← hs3]
 rw [eh] at st3 lt3
 refine zbO ok.cells fun cl h₁ hns₁ k4 oc => ?_
 have I4 := zdG (cl := cl) (h₁ := h₁) (t' := s3.toks + ([] : List (Str × Value)).length) ok I3 h2 h3 hf3 lt3 k4 hns₁ oc
 have st4 : tn 0 h₁ := T.keep _ _ _ st3 fun b _ o e => k4 b o e
 generalize hX : lcx X N' scope cl s3.heap.objs.size s3 (upd H p (.lst [])) fp = X' at I4
 have hg' : PG X' tg g := by rw [← hX]; exact hg _ _ _ _ _
 have ht' : PIfs X' ifs tc := by rw [← hX]; exact ht _ _ _ _ _
 have he' : PE X' elt te := by rw [← hX]; exact he _ _ _ _ _
 have eP : X'.prog = X.prog := by rw [← hX]; rfl
 have ew : X'.w = X.w := by rw [← hX]; rfl
 have eK : X'.K = X.K := by rw [← hX]; rfl
 have ec : X'.calm = true := by rw [← hX]; exact hc
 have eA : X'.A = X.A := by rw [← hX]; rfl
 have ex : X'.xe = fun _ _ => False := by rw [← hX]; rfl
 have eE : X'.env = compEnvC scope cl s3.heap.objs.size X.env := by rw [← hX]; rfl
 have eEx : X'.ex = fp := by rw [← hX]; rfl
 have eN : X'.pn = [] := by rw [← hX]; rfl
 have stat : ∀ {H' : Hp}, (∀ b ∈ fp, H' b = none) → ∀ b ∈ fp, FpOk X' [] H' b := fun {H'} hn b hb => by
  have okc := I4.ok
  refine ⟨hn b hb, (okc.exf b (by rw [eEx]; exact hb)).1, okc.exfs b (by rw [eEx]; exact hb), .inl (by rw [eEx]; exact hb), (okc.exf b (by rw [eEx]; exact hb)).2, fun q hq => ?_⟩
  rw [eN] at hq
  cases hq
 have loop : ∀ s₄ : Shared, s₄ = { s3 with heap := h₁, toks := s3.toks + ([] : List (Str × Value)).length } →
  codeAny (model X.prog X.w) X.A (.compLoop (.ListComp elt [⟨tg, iter, ifs, 0⟩] scope pos) 0 (.ref it) (.ref p) (compEnvC scope cl s3.heap.objs.size X.env))
   (fun r s' => r = .ok .next ∧ (∃ m, s'.heap.Ns s3.heap.objs.size m) ∧ ∃ v H', RelV v (.ref p) ∧ Inv X pins σ H' s' ∧ FpOk X pins H' s3.heap.objs.size ∧ Q v H') s₄ := by
  rintro s₄ rfl
  refine zf0 (fun n s' => ∃ i σ' ys H', Inv X' [] σ' H' s' ∧ tn i s'.heap ∧ (∀ b ∈ fp, H' b = none) ∧ W i n σ' ys H') ?_ m0 ⟨0, _, [], _, I4, st4, fun b hb => (hf3 b hb).1, w0⟩
  rintro n s5 ⟨i, σ5, ys, H5, I5, st5, fr5, w5⟩
  obtain ⟨hp5, tu⟩ := turn i n σ5 ys H5 w5
  rcases tu with ⟨stop, qn⟩ | ⟨go, hz, step⟩
  · have D := T.done X' eP ew eK ec i [] s5 σ5 H5 (fun _ _ => False) I5 (stat fr5) st5 stop
    rw [eA] at D
    refine thn D fun r s6 ⟨hr, I6⟩ => ?_
    subst hr
    refine ⟨rfl, ?_, .ref p, H5, rfl, ?_, ?_, qn⟩
    · obtain ⟨m, hm, _⟩ := I6.loc
      rw [eE] at hm
      exact ⟨m, hm⟩
    · have b6 := I6.base
      have ho := I6.os
      have hk := I6.hok
      have hb := I6.bare
      subst hX
      exact I3.call' (ch := fp) ho b6 hk hb fun b hb' => ⟨(hf b hb').2.2.2.1, (hf b hb').2.1, (hf b hb').2.2.2.2.1, (hf b hb').2.2.2.2.2⟩
    · have fr := I6.free
      rw [eE] at fr
      exact I3.fpOk (Nat.le_refl _) fr
  · have D := T.item X' eP ew eK ec i [] s5 σ5 H5 (fun _ _ => False) I5 (stat fr5) st5 go
    rw [eA] at D
    refine thn D fun r s6 ⟨u, hr, h6⟩ => ?_
    subst hr
    refine thn h6 fun _ s7 ⟨x, H7, I7, r7, y7, st7, fr7⟩ => ?_
    have I7' := I7.pinned (stat fr7) (T.obj _ _ st7)
    have G := hg' _ s7 σ5 H7 x u _ I7' r7 (step x H7 y7)
    rw [eP, ew, eA, ex, eE] at G
    refine thn G fun _ s8 ⟨σ8, H8, I8, q8⟩ => ?_
    have Tt := ht' _ s8 σ8 H8 _ I8 q8
    rw [eP, ew, eA, ex, eE] at Tt
    refine thn Tt fun b s9 ⟨H9, I9, q9⟩ => ?_
    have again : ∀ {s' : Shared} {ys' : List V} {H' : Hp}, Inv X' ([] ++ zdv fp s7.heap) σ8 H' s' → (∃ m', m' < n ∧ W (i + 1) m' σ8 ys' H') →
     ∃ m, m < n ∧ ∃ i σ' ys H', Inv X' [] σ' H' s' ∧ tn i s'.heap ∧ (∀ b ∈ fp, H' b = none) ∧ W i m σ' ys H' := fun {s' ys' H'} I' ⟨m', hm, w'⟩ => by
     refine ⟨m', hm, i + 1, σ8, ys', H', I'.unpinned, T.keep _ _ _ st7 fun b hb o e => (I'.pin (b, o) (List.mem_append_right _ (List.mem_append_right _ (za2 hb e)))).1, fun b hb => ?_, w'⟩
     obtain ⟨o, e, d⟩ := T.obj _ _ st7 b hb
     exact (I'.pin (b, o) (List.mem_append_right _ (List.mem_append_right _ (za2 hb e)))).2.1
    cases b with
    | false => exact again I9 q9
    | true =>
     have Ee := he' _ s9 σ8 H9 _ I9 q9
     rw [eP, ew, eA, ex, eE] at Ee
     show wpAny _ _ _ _ _ _
     refine thn Ee fun xv s10 ⟨y, H10, I10, r10, hp10, q10⟩ => ?_
     have Ap := zbk (X := X') _ s10 σ8 H10 (.ref p) [y] (.ref p) [xv] (fun _ H' => H' = upd H10 p (.lst (ys ++ [y]))) I10 rfl (.cons r10 .nil) ⟨p, ys, y, rfl, rfl, hp10, hz, rfl⟩
     rw [eP, ew, eA, ex] at Ap
     refine thn Ap fun _ s11 ⟨_, H11, I11, _, e11⟩ => ?_
     subst e11
     exact again I11 q10
 exact codeAny_compStart_list (loop _ rfl) (T.self _ 0 _ _ _ st4 (loop _ rfl))
theorem zed (hc : X.calm = true) (ok : CapOk X N' js scope) (hi : PI X tg iter wi)
 (hg : ∀ cl C s₀ H₀ ex, PG (lcx X N' scope cl C s₀ H₀ ex) tg g) (ht : ∀ cl C s₀ H₀ ex, PIfs (lcx X N' scope cl C s₀ H₀ ex) ifs tc) (he : ∀ cl C s₀ H₀ ex, PE (lcx X N' scope cl C s₀ H₀ ex) elt te)
 (hs : ∀ x, foldedSetIterable iter X.env x = pure x := by intro _; rfl) : PE X (.ListComp elt [⟨tg, iter, ifs, 0⟩] scope pos) (tLC wi js g tc te) := by
 intro pins s σ H Q I h
 obtain ⟨cl, c1, c2, c3⟩ := zew (scope := scope) I.ok.has ok.free
 rw [eval_ListComp]
 refine wpAny_comprehension_free (use := none) rfl hs c1 ok.kind ok.names (thn (hi pins s σ H _ I h) fun v s1 h1 => thn h1 fun itv s2 h2 => ?_)
 obtain ⟨it, fp, tn, J, H2, e, I2, T, st2, f2, hw⟩ := h2
 subst e
 refine wpAny_mono (zgn (iter := iter) (pos := pos) hc ok c2 c3 hg ht he I2 T st2 f2 hw) (fun acc s3 h3 => wpAny_mono h3 (fun cenv s4 h4 => ?_) fun _ _ z => z) fun _ _ z => z
 refine codeAny_mono h4 fun r s5 h5 => ?_
 obtain ⟨rfl, ⟨m, hm⟩, v, H5, rv, I5, f5, q5⟩ := h5
 refine ⟨m, hm, fun h' sb => ?_⟩
 obtain ⟨f0, f1, _, f3, f4, f6⟩ := f5
 exact ⟨v, H5, I5.turned (t' := s5.toks) (fun b o hb e => (sb.2 b hb).trans e) f0 f1 f3 f4 f6, rv, q5⟩
theorem zec {i : Nat} {x : Str} {px : Pos} {spos : Pos} (hN : X.N.Nodup) (hi' : X.N[i]? = some x) (hx : Loc X.env.scope x) (hc : X.calm = true) (ok : CapOk X N' js scope) (hi : PI X tg iter wi)
 (hg : ∀ cl C s₀ H₀ ex, PG (lcx X N' scope cl C s₀ H₀ ex) tg g) (ht : ∀ cl C s₀ H₀ ex, PIfs (lcx X N' scope cl C s₀ H₀ ex) ifs tc) (he : ∀ cl C s₀ H₀ ex, PE (lcx X N' scope cl C s₀ H₀ ex) elt te)
 (hsw : swapsWith (.ListComp elt [⟨tg, iter, ifs, 0⟩] scope pos) (some (.Name x px)) spos.line X.env = pure true := by rfl)
 (hs : ∀ x, foldedSetIterable iter X.env x = pure x := by intro _; rfl) (hf : X.fn x = true ∨ X.env.scope.names.lookup x = some .local := by first | exact .inl rfl | exact .inr rfl | assumption) :
 PS X (.Assign [.Name x px] (.ListComp elt [⟨tg, iter, ifs, 0⟩] scope pos) spos) (tAsg (tLC wi js g tc te) (zfT i)) := by
 intro pins s σ H D I h
 obtain ⟨cl, c1, c2, c3⟩ := zew (scope := scope) I.ok.has ok.free
 rw [exec_Assign_Name_used _ _ _ _ hsw]
 refine wpAny_bind (wpAny_standAt (wpAny_bind ?_))
 show wpAny _ X.A (do let _ ← comprehension (.ListComp elt [⟨tg, iter, ifs, 0⟩] scope pos) scope X.env _ (newList []) false (eval iter X.env) (some (assign (.Name x px) X.env))) _ _ s
 refine wpAny_bind (wpAny_mono (wpAny_comprehension_free (use := some (assign (.Name x px) X.env)) (Q := fun _ s' => SP X pins D .next s') rfl hs c1 ok.kind ok.names
  (thn (hi pins s σ H _ I h) fun v s1 h1 => thn h1 fun itv s2 h2 => ?_)) (fun _ s' hq => wpAny_pure (wpAny_pure hq)) fun _ _ e => e)
 obtain ⟨it, fp, tn, J, H2, e, I2, T, st2, f2, hw⟩ := h2
 subst e
 refine wpAny_mono (zgn (Q := fun x H1 => zfT i x σ H1 D.nx) (iter := iter) (pos := pos) hc ok c2 c3 hg ht he I2 T st2 f2 hw) (fun acc s3 h3 => wpAny_mono h3 (fun cenv s4 h4 => ?_) fun _ _ z => z) fun _ _ z => z
 refine codeAny_mono h4 fun r s5 h5 => ?_
 obtain ⟨rfl, ⟨m, hm⟩, v, H5, rv, I5, f5, q5⟩ := h5
 obtain ⟨f0, f1, f2', f3, f4, f6⟩ := f5
 show wpAny _ X.A (assign (.Name x px) X.env acc) _ _ _
 refine wpAny_assign_Name (zeE I5 hN hi' hx rv (fun s6 I6 ch => ?_) hf)
 obtain ⟨a, sb, ha⟩ := ch
 have na : cenv.locals ≠ a := by
  rcases ha with z | z
  · rw [z]; exact f1
  · exact fun y => f4 x a z y.symm
 refine ⟨m, hm.sameBut sb na, fun h' sb' => ⟨_, H5, I6.turned (t' := s6.toks) (fun b o hb e => (sb'.2 b hb).trans e) f0 f1 f3 f4 f6, q5⟩⟩
end
end L2
set_option exponentiation.threshold 2000
namespace L2
open PySem PySem.Spec PyProof.Rows
def zkZ (i j : Int) : Prop := 0 ≤ j ∧ j ≤ 1000 ∧ i.natAbs < 2 ^ 1000
def zlk (i j : Int) : Prop := 0 < j ∧ j < 2 ^ 1000
section
variable {X : Cx}
theorem zbI : OpR X (binaryOp .Pow) (rI zkZ fun i j => .int (i ^ j.toNat)) := opI fun i j _ _ _ _ _ hc q => by
 obtain ⟨h0, h1, h2⟩ := hc
 refine pow_int h0 ?_ q
 have hb : Builtin.Int.intBits i ≤ 1000 := intBits_le h2
 have e1 : ((Builtin.Int.intBits i : Nat) : Int) * j ≤ 1000 * 1000 := by
  have a1 : ((Builtin.Int.intBits i : Nat) : Int) * j ≤ 1000 * j := Int.mul_le_mul_of_nonneg_right (by omega) h0
  have a2 : 1000 * j ≤ 1000 * 1000 := Int.mul_le_mul_of_nonneg_left h1 (by decide)
  exact Int.le_trans a1 a2
 exact Int.le_trans e1 (by decide)
theorem zgh : OpR X (binaryOp .FloorDiv) (rI zlk fun i j => .int (i / j)) := opI fun i j _ _ _ _ _ hc q => by
 obtain ⟨h0, h1⟩ := hc
 refine floordiv_int (by omega) ?_ (.inl (PyProof.noPylong_of_log2 ?_))
 · rw [Int.fdiv_eq_ediv_of_nonneg _ (by omega)]
   exact q
 · have h2 : j.natAbs < 2 ^ 1000 := by
    have e : ((j.natAbs : Nat) : Int) = j := by omega
    have h3 : ((j.natAbs : Nat) : Int) < ((2 ^ 1000 : Nat) : Int) := by
     rw [e, Int.natCast_pow]
     exact h1
    exact Int.ofNat_lt.mp h3
   have h4 : j.natAbs ≠ 0 := by omega
   have h5 := (Nat.log2_lt h4).mpr h2
   omega
end
inductive PD where
 | non | bl (b : Bool) | int (i : Int) | str (x : Str) | lst (ds : List PD) | tup (ds : List PD)
mutual
def Rep (K : PySem.W.Frag) (H : Hp) : PD → V → Prop
 | .non, v => v = .non
 | .bl b, v => v = .bl b
 | .int i, v => v = .int i
 | .str x, v => v = .str x
 | .lst ds, v => ∃ a xs, v = .ref a ∧ SqL K H a xs ∧ Reps K H ds xs
 | .tup ds, v => ∃ a xs, v = .ref a ∧ SqT K H a xs ∧ Reps K H ds xs
def Reps (K : PySem.W.Frag) (H : Hp) : List PD → List V → Prop
 | [], xs => xs = []
 | d :: ds, xs => ∃ x r, xs = x :: r ∧ Rep K H d x ∧ Reps K H ds r
end
mutual
def pyEq : PD → PD → Bool
 | .non, .non => true
 | .bl a, .bl b => a == b
 | .bl a, .int b => (if a then 1 else 0) == b
 | .int a, .bl b => a == (if b then 1 else 0)
 | .int a, .int b => a == b
 | .str a, .str b => a == b
 | .lst xs, .lst ys => zaQ xs ys
 | .tup xs, .tup ys => zaQ xs ys
 | _, _ => false
def zaQ : List PD → List PD → Bool
 | [], [] => true
 | x :: xs, y :: ys => pyEq x y && zaQ xs ys
 | _, _ => false
end
mutual
def zay : PD → Nat
 | .lst ds => zaz ds + 1
 | .tup ds => zaz ds + 1
 | _ => 0
def zaz : List PD → Nat
 | [] => 0
 | d :: ds => max (zay d) (zaz ds)
end
mutual
theorem za8 : ∀ d : PD, pyEq d d = true
 | .non => rfl
 | .bl b => by simp [pyEq]
 | .int i => by simp [pyEq]
 | .str x => by simp [pyEq]
 | .lst ds => by rw [pyEq]; exact zco ds
 | .tup ds => by rw [pyEq]; exact zco ds
theorem zco : ∀ ds : List PD, zaQ ds ds = true
 | [] => by rw [zaQ]
 | d :: ds => by rw [zaQ, za8 d, zco ds]; rfl
end
theorem Reps.length {K : PySem.W.Frag} {H : Hp} : ∀ {ds : List PD} {xs : List V}, Reps K H ds xs → xs.length = ds.length
 | [], xs, h => by rw [Reps] at h; rw [h]; rfl
 | d :: ds, xs, h => by
  rw [Reps] at h
  obtain ⟨x, r, rfl, _, h⟩ := h
  rw [List.length_cons, List.length_cons, Reps.length h]
theorem zbh : ∀ {xs ys : List PD}, xs.length ≠ ys.length → zaQ xs ys = false
 | [], [], h => absurd rfl h
 | [], _ :: _, _ => by rw [zaQ]; all_goals simp
 | _ :: _, [], _ => by rw [zaQ]; all_goals simp
 | x :: xs, y :: ys, h => by
  rw [zaQ, zbh (xs := xs) (ys := ys) (by simpa using h)]
  simp
def eqJ (xs ys : List PD) (j : Nat) : Bool := match xs[j]?, ys[j]? with
 | some a, some b => pyEq a b
 | _, _ => false
theorem za0 : ∀ (xs ys : List PD), xs.length = ys.length → (List.range xs.length).all (eqJ xs ys) = zaQ xs ys
 | [], [], _ => by rw [zaQ]; rfl
 | x :: xs, y :: ys, h => by
  rw [zaQ, List.length_cons, List.range_succ_eq_map, List.all_cons, List.all_map]
  rw [← za0 xs ys (by simpa using h)]
  rfl
theorem SqT.notL {K : PySem.W.Frag} {X : Cx} {pins : List (Addr × Obj)} {σ : St} {H : Hp} {s : Shared} {a : Addr} {xs ys : List V} (I : Inv X pins σ H s) (h : SqT X.K H a xs) (h' : SqL X.K H a ys) : False := by
 obtain ⟨its, _, p, _⟩ := I.tuple h
 obtain ⟨its', _, p', _⟩ := I.list h'
 exact SeqAt.ne_of_list_tuple p'.isList (show s.heap.IsTuple a its.toArray from p) rfl
section
variable {X : Cx} {pins : List (Addr × Obj)} {σ : St} {H : Hp} {s : Shared}
mutual
theorem zd9 (I : Inv X pins σ H s) : ∀ (d e : PD) (v : V), Rep X.K H d v → Rep X.K H e v → d = e
 | .non, e, v, h, h' => by
  rw [Rep] at h; subst h
  cases e <;> rw [Rep] at h' <;> first | rfl | (obtain ⟨_, _, z, _⟩ := h'; cases z; done) | (cases h'; done)
 | .bl b, e, v, h, h' => by
  rw [Rep] at h; subst h
  cases e <;> rw [Rep] at h' <;> first | (obtain ⟨_, _, z, _⟩ := h'; cases z; done) | (cases h'; done) | (cases h'; rfl)
 | .int i, e, v, h, h' => by
  rw [Rep] at h; subst h
  cases e <;> rw [Rep] at h' <;> first | (obtain ⟨_, _, z, _⟩ := h'; cases z; done) | (cases h'; done) | (cases h'; rfl)
 | .str x, e, v, h, h' => by
  rw [Rep] at h; subst h
  cases e <;> rw [Rep] at h' <;> first | (obtain ⟨_, _, z, _⟩ := h'; cases z; done) | (cases h'; done) | (cases h'; rfl)
 | .lst ds, e, v, h, h' => by
  rw [Rep] at h
  obtain ⟨a, xs, rfl, q, r⟩ := h
  cases e with
  | lst es =>
   rw [Rep] at h'
   obtain ⟨a', ys, z, q', r'⟩ := h'
   cases z
   have := I.list_inj q q'
   subst this
   rw [zd8 I ds es xs r r']
  | tup es =>
   rw [Rep] at h'
   obtain ⟨a', ys, z, q', r'⟩ := h'
   cases z
   exact (SqT.notL (K := X.K) I q' q).elim
  | _ => rw [Rep] at h'; cases h'
 | .tup ds, e, v, h, h' => by
  rw [Rep] at h
  obtain ⟨a, xs, rfl, q, r⟩ := h
  cases e with
  | tup es =>
   rw [Rep] at h'
   obtain ⟨a', ys, z, q', r'⟩ := h'
   cases z
   have := I.tuple_inj q q'
   subst this
   rw [zd8 I ds es xs r r']
  | lst es =>
   rw [Rep] at h'
   obtain ⟨a', ys, z, q', r'⟩ := h'
   cases z
   exact (SqT.notL (K := X.K) I q q').elim
  | _ => rw [Rep] at h'; cases h'
theorem zd8 (I : Inv X pins σ H s) : ∀ (ds es : List PD) (vs : List V), Reps X.K H ds vs → Reps X.K H es vs → ds = es
 | [], es, vs, h, h' => by
  rw [Reps] at h; subst h
  cases es with
  | nil => rfl
  | cons e es => rw [Reps] at h'; obtain ⟨_, _, z, _⟩ := h'; cases z
 | d :: ds, es, vs, h, h' => by
  rw [Reps] at h
  obtain ⟨x, r, rfl, h1, h2⟩ := h
  cases es with
  | nil => rw [Reps] at h'; cases h'
  | cons e es =>
   rw [Reps] at h'
   obtain ⟨x', r', z, h1', h2'⟩ := h'
   cases z
   rw [zd9 I d e x h1 h1', zd8 I ds es r h2 h2']
end
mutual
theorem zbT (I : Inv X pins σ H s) : ∀ (A : Around) (d e : PD) (v w : V) (u y : Value), Rep X.K H d v → Rep X.K H e w → RelV v u → RelV w y → A.units + zay d < cLine → SeqAt.EqAt A s u y (pyEq d e)
 | A, .non, e, v, w, u, y, h, h', r, r', z => by
  rw [Rep] at h; subst h; cases r
  cases e with
  | non => rw [Rep] at h'; subst h'; cases r'; rw [pyEq]; exact SeqAt.EqAt.same _
  | bl b => rw [Rep] at h'; subst h'; cases r'; exact SeqAt.EqAt.none_bool b
  | int b => rw [Rep] at h'; subst h'; obtain ⟨t, rfl⟩ := r'; exact SeqAt.EqAt.none_int b t
  | str b => rw [Rep] at h'; subst h'; obtain ⟨t, rfl⟩ := r'; exact SeqAt.EqAt.none_str b t
  | lst es => rw [Rep] at h'; obtain ⟨a, xs, rfl, q, _⟩ := h'; cases r'; obtain ⟨its, _, p, _⟩ := I.list q; exact SeqAt.EqAt.none_list p.isList (by omega)
  | tup es => rw [Rep] at h'; obtain ⟨a, xs, rfl, q, _⟩ := h'; cases r'; obtain ⟨its, _, p, _⟩ := I.tuple q; exact SeqAt.EqAt.none_tuple p (by omega)
 | A, .bl c, e, v, w, u, y, h, h', r, r', z => by
  rw [Rep] at h; subst h; cases r
  cases e with
  | non => rw [Rep] at h'; subst h'; cases r'; exact SeqAt.EqAt.bool_none c
  | bl b => rw [Rep] at h'; subst h'; cases r'; exact SeqAt.EqAt.bool_bool c b
  | int b => rw [Rep] at h'; subst h'; obtain ⟨t, rfl⟩ := r'; exact SeqAt.EqAt.bool_int c b t
  | str b => rw [Rep] at h'; subst h'; obtain ⟨t, rfl⟩ := r'; exact SeqAt.EqAt.bool_str c b t
  | lst es => rw [Rep] at h'; obtain ⟨a, xs, rfl, q, _⟩ := h'; cases r'; obtain ⟨its, _, p, _⟩ := I.list q; exact SeqAt.EqAt.bool_list c p.isList (by omega)
  | tup es => rw [Rep] at h'; obtain ⟨a, xs, rfl, q, _⟩ := h'; cases r'; obtain ⟨its, _, p, _⟩ := I.tuple q; exact SeqAt.EqAt.bool_tuple c p (by omega)
 | A, .int c, e, v, w, u, y, h, h', r, r', z => by
  rw [Rep] at h; subst h; obtain ⟨tc, rfl⟩ := r
  cases e with
  | non => rw [Rep] at h'; subst h'; cases r'; exact SeqAt.EqAt.int_none c tc
  | bl b => rw [Rep] at h'; subst h'; cases r'; exact SeqAt.EqAt.int_bool c tc b
  | int b => rw [Rep] at h'; subst h'; obtain ⟨t, rfl⟩ := r'; exact SeqAt.EqAt.int_int c tc b t
  | str b => rw [Rep] at h'; subst h'; obtain ⟨t, rfl⟩ := r'; exact SeqAt.EqAt.int_str c tc b t
  | lst es => rw [Rep] at h'; obtain ⟨a, xs, rfl, q, _⟩ := h'; cases r'; obtain ⟨its, _, p, _⟩ := I.list q; exact SeqAt.EqAt.int_list c tc p.isList (by omega)
  | tup es => rw [Rep] at h'; obtain ⟨a, xs, rfl, q, _⟩ := h'; cases r'; obtain ⟨its, _, p, _⟩ := I.tuple q; exact SeqAt.EqAt.int_tuple c tc p (by omega)
 | A, .str c, e, v, w, u, y, h, h', r, r', z => by
  rw [Rep] at h; subst h; obtain ⟨tc, rfl⟩ := r
  cases e with
  | non => rw [Rep] at h'; subst h'; cases r'; exact SeqAt.EqAt.str_none c tc
  | bl b => rw [Rep] at h'; subst h'; cases r'; exact SeqAt.EqAt.str_bool c tc b
  | int b => rw [Rep] at h'; subst h'; obtain ⟨t, rfl⟩ := r'; exact SeqAt.EqAt.str_int c tc b t
  | str b => rw [Rep] at h'; subst h'; obtain ⟨t, rfl⟩ := r'; exact SeqAt.EqAt.str_str c tc b t
  | lst es => rw [Rep] at h'; obtain ⟨a, xs, rfl, q, _⟩ := h'; cases r'; obtain ⟨its, _, p, _⟩ := I.list q; exact SeqAt.EqAt.str_list c tc p.isList (by omega)
  | tup es => rw [Rep] at h'; obtain ⟨a, xs, rfl, q, _⟩ := h'; cases r'; obtain ⟨its, _, p, _⟩ := I.tuple q; exact SeqAt.EqAt.str_tuple c tc p (by omega)
 | A, .lst ds, e, v, w, u, y, h, h', r, r', z => by
  have h0 := h
  rw [Rep] at h; obtain ⟨a, xs, rfl, q, qs⟩ := h; cases r
  obtain ⟨its, rv, p, _⟩ := I.list q
  cases e with
  | non => rw [Rep] at h'; subst h'; cases r'; exact SeqAt.EqAt.list_none p.isList (by omega)
  | bl b => rw [Rep] at h'; subst h'; cases r'; exact SeqAt.EqAt.list_bool b p.isList (by omega)
  | int b => rw [Rep] at h'; subst h'; obtain ⟨t, rfl⟩ := r'; exact SeqAt.EqAt.list_int b t p.isList (by omega)
  | str b => rw [Rep] at h'; subst h'; obtain ⟨t, rfl⟩ := r'; exact SeqAt.EqAt.list_str b t p.isList (by omega)
  | tup es => rw [Rep] at h'; obtain ⟨b, ys, rfl, q', _⟩ := h'; cases r'; obtain ⟨its', _, p', _⟩ := I.tuple q'; exact SeqAt.EqAt.list_tuple p.isList p' (by omega)
  | lst es =>
   have h0' := h'
   rw [Rep] at h'; obtain ⟨b, ys, rfl, q', qs'⟩ := h'; cases r'
   obtain ⟨its', rv', p', _⟩ := I.list q'
   by_cases hab : a = b
   · subst hab
     rw [zd9 I _ _ _ h0 h0', za8]
     exact SeqAt.EqAt.same _
   · refine SeqAt.EqAt.of_refs hab ?_
     rw [pyEq]
     rw [zay] at z
     have l1 := qs.length
     have l2 := qs'.length
     have l3 := rv.length
     have l4 := rv'.length
     by_cases hl : ds.length = es.length
     · rw [← za0 ds es hl]
       have := SeqAt.RcAt.lists (e := eqJ ds es) p.isList p'.isList (by simp; omega) (by omega) (fun j h1 h2 => ?_) (A := A)
       · simp only [List.size_toArray] at this
         rw [show ds.length = its.length by omega]
         exact this
       · have := zbz I A.in1 ds es xs ys its its' qs qs' rv rv' (by rw [Around.in1_units]; omega) j (by simpa using h1) (by simpa using h2)
         simpa using this
     · rw [zbh hl]
       exact SeqAt.RcAt.lists_lengths p.isList p'.isList (by simp; omega) (by omega)
 | A, .tup ds, e, v, w, u, y, h, h', r, r', z => by
  have h0 := h
  rw [Rep] at h; obtain ⟨a, xs, rfl, q, qs⟩ := h; cases r
  obtain ⟨its, rv, p, _⟩ := I.tuple q
  cases e with
  | non => rw [Rep] at h'; subst h'; cases r'; exact SeqAt.EqAt.tuple_none p (by omega)
  | bl b => rw [Rep] at h'; subst h'; cases r'; exact SeqAt.EqAt.tuple_bool b p (by omega)
  | int b => rw [Rep] at h'; subst h'; obtain ⟨t, rfl⟩ := r'; exact SeqAt.EqAt.tuple_int b t p (by omega)
  | str b => rw [Rep] at h'; subst h'; obtain ⟨t, rfl⟩ := r'; exact SeqAt.EqAt.tuple_str b t p (by omega)
  | lst es => rw [Rep] at h'; obtain ⟨b, ys, rfl, q', _⟩ := h'; cases r'; obtain ⟨its', _, p', _⟩ := I.list q'; exact SeqAt.EqAt.tuple_list p p'.isList (by omega)
  | tup es =>
   have h0' := h'
   rw [Rep] at h'; obtain ⟨b, ys, rfl, q', qs'⟩ := h'; cases r'
   obtain ⟨its', rv', p', _⟩ := I.tuple q'
   by_cases hab : a = b
   · subst hab
     rw [zd9 I _ _ _ h0 h0', za8]
     exact SeqAt.EqAt.same _
   · refine SeqAt.EqAt.of_refs hab ?_
     rw [pyEq]
     rw [zay] at z
     have l1 := qs.length
     have l2 := qs'.length
     have l3 := rv.length
     have l4 := rv'.length
     have := SeqAt.RcAt.tuples (e := eqJ ds es) p p' (by omega) (fun j h1 h2 => ?_) (A := A)
     · simp only [List.size_toArray] at this
       by_cases hl : ds.length = es.length
       · rw [← za0 ds es hl]
         rw [show min its.length its'.length = ds.length by omega, show (its.length == its'.length) = true by simp; omega, Bool.and_true] at this
         exact this
       · rw [zbh hl]
         rw [show (its.length == its'.length) = false by simp; omega, Bool.and_false] at this
         exact this
     · have := zbz I A.in1 ds es xs ys its its' qs qs' rv rv' (by rw [Around.in1_units]; omega) j (by simpa using h1) (by simpa using h2)
       simpa using this
theorem zbz (I : Inv X pins σ H s) : ∀ (A : Around) (ds es : List PD) (vs ws : List V) (us ys : List Value), Reps X.K H ds vs → Reps X.K H es ws → Vals vs us → Vals ws ys → A.units + zaz ds < cLine →
 ∀ (j : Nat) (h1 : j < us.length) (h2 : j < ys.length), SeqAt.EqAt A s us[j] ys[j] (eqJ ds es j)
 | A, [], es, vs, ws, us, ys, h, h', r, r', z => by
  rw [Reps] at h; subst h; cases r
  intro j h1; exact absurd h1 (Nat.not_lt_zero _)
 | A, d :: ds, es, vs, ws, us, ys, h, h', r, r', z => by
  rw [Reps] at h
  obtain ⟨x, vr, rfl, g1, g2⟩ := h
  cases es with
  | nil =>
   rw [Reps] at h'; subst h'; cases r'
   intro j h1 h2; exact absurd h2 (Nat.not_lt_zero _)
  | cons e es =>
   rw [Reps] at h'
   obtain ⟨x', vr', rfl, g1', g2'⟩ := h'
   cases r with
   | cons ra rb =>
    cases r' with
    | cons ra' rb' =>
     rw [zaz] at z
     intro j h1 h2
     cases j with
     | zero => exact zbT I A d e x x' _ _ g1 g1' ra ra' (by omega)
     | succ j => exact zbz I A ds es vr vr' _ _ g2 g2' rb rb' (by omega) j (by simpa using h1) (by simpa using h2)
end
end
section
variable {prog : Program} {w : World} {A : Around} {R : Result → Shared → Prop} {J : Addr} {fo wo : List Addr} {len : Nat} {At : Nat → Value → Prop} {Sx : Nat → Heap → Prop}
end
section
variable {prog : Program} {w : World} {A : Around} {R : Result → Shared → Prop} {J : Addr} {fo wo : List Addr} {len : Nat} {At : Nat → Value → Prop} {Sx : Nat → Heap → Prop}
end
section
variable {X : Cx}
def zjm (X : Cx) (f : Value) (ks : List Str) (r : List V → List V → Hp → VK → Prop) : Prop :=
 ∀ (pins : List (Addr × Obj)) (s : Shared) (σ : St) (H : Hp) (xs zs : List V) (us ws : List Value) (Q : VK), Inv X pins σ H s → Vals xs us → Vals zs ws → r xs zs H Q → wpAny (model X.prog X.w) X.A (call f us (ks.zip ws)) (EP X pins σ Q) X.xe s
def tCBK (r : List V → List V → Hp → VK → Prop) (t tk : TA) : TE := fun σ H Q => t σ H fun vs H1 => tk σ H1 fun zs H2 => r vs zs H2 Q
theorem zhr {x : Str} {id : String} {ks : List Str} {r : List V → List V → Hp → VK → Prop} {e : Expr} {es : List Expr} {kws : List Keyword} {t tk : TA} {p pos : Pos} (hc : zjm X (.builtin id) ks r) (hg : Gl X x) (hm : X.mg x = none) (hv : bootBuiltins x = some (.builtin id)) (ha : PA X (e :: es) t) (hkw : PK X kws tk)
 (hks : (backToKw pos (keywordEach kws X.env)).filterMap (·.1) = ks := by rfl) (hn : x ≠ "__name__" := by decide) (hdb : (x == ("__debug__" : Str)) = false := by decide)
 (he : backTo pos (starEach (e :: es) X.env) = (false, eval e X.env) :: backTo pos (starEach es X.env) := by rfl) (hpl : (backTo pos (starEach (e :: es) X.env)).any (·.1) = false := by rfl)
 (hall : (backToKw pos (keywordEach kws X.env)).all (·.1.isSome) = true := by rfl) (hkn : (backToKw pos (keywordEach kws X.env)).any (·.1.isNone) = false := by rfl) :
 PE X (.Call (.Name x p) (e :: es) kws pos) (tCBK r t tk) := by
 intro pins s σ H Q I h
 refine wpAny_Call_Name_kw (zdS I hg hm hv ?_ hn hdb)
 refine callWith_kw (thn (ha pos pins s σ H _ I h) fun us s1 ⟨vs, H1, I1, r1, q1⟩ => ?_) he hpl hall hkn
 refine thn (hkw pos pins s1 σ H1 _ I1 q1) fun ws s2 ⟨zs, H2, I2, r2, q2⟩ => ?_
 rw [hks]
 exact hc pins s2 σ H2 vs zs us ws Q I2 r1 r2 q2
end
section
variable {X : Cx} {pins : List (Addr × Obj)} {σ : St} {H : Hp} {s : Shared}
theorem zdk (I : Inv X pins σ H s) (A : Around) (d e : PD) (v w : V) (u y : Value) (h : Rep X.K H d v) (h' : Rep X.K H e w) (r : RelV v u) (r' : RelV w y) (z : A.units + zay d < cLine) : SeqAt.RcAt A s u y (pyEq d e) := by
 cases d with
 | non =>
  rw [Rep] at h; subst h; cases r
  cases e with
  | non =>
   rw [Rep] at h'
   subst h'; cases r'
   rw [pyEq]; exact SeqAt.RcAt.none_none
  | bl b =>
   rw [Rep] at h'
   subst h'; cases r'
   exact SeqAt.RcAt.none_bool b
  | int b =>
   rw [Rep] at h'
   subst h'; obtain ⟨t, rfl⟩ := r'
   exact SeqAt.RcAt.none_int b t
  | str b =>
   rw [Rep] at h'
   subst h'; obtain ⟨t, rfl⟩ := r'
   exact SeqAt.RcAt.none_str b t
  | lst es =>
   rw [Rep] at h'
   obtain ⟨b, ys, rfl, q', qs'⟩ := h'; cases r'
   obtain ⟨its', rv', p', _⟩ := I.list q'
   exact SeqAt.RcAt.none_list p'.isList (by omega)
  | tup es =>
   rw [Rep] at h'
   obtain ⟨b, ys, rfl, q', qs'⟩ := h'; cases r'
   obtain ⟨its', rv', p', _⟩ := I.tuple q'
   exact SeqAt.RcAt.none_tuple p' (by omega)
 | bl c =>
  rw [Rep] at h; subst h; cases r
  cases e with
  | non =>
   rw [Rep] at h'
   subst h'; cases r'
   exact SeqAt.RcAt.bool_none c
  | bl b =>
   rw [Rep] at h'
   subst h'; cases r'
   exact SeqAt.RcAt.bool_bool c b
  | int b =>
   rw [Rep] at h'
   subst h'; obtain ⟨t, rfl⟩ := r'
   exact SeqAt.RcAt.bool_int c b t
  | str b =>
   rw [Rep] at h'
   subst h'; obtain ⟨t, rfl⟩ := r'
   exact SeqAt.RcAt.bool_str c b t
  | lst es =>
   rw [Rep] at h'
   obtain ⟨b, ys, rfl, q', qs'⟩ := h'; cases r'
   obtain ⟨its', rv', p', _⟩ := I.list q'
   exact SeqAt.RcAt.bool_list c p'.isList (by omega)
  | tup es =>
   rw [Rep] at h'
   obtain ⟨b, ys, rfl, q', qs'⟩ := h'; cases r'
   obtain ⟨its', rv', p', _⟩ := I.tuple q'
   exact SeqAt.RcAt.bool_tuple c p' (by omega)
 | int c =>
  rw [Rep] at h; subst h; obtain ⟨tc, rfl⟩ := r
  cases e with
  | non =>
   rw [Rep] at h'
   subst h'; cases r'
   exact SeqAt.RcAt.int_none c tc
  | bl b =>
   rw [Rep] at h'
   subst h'; cases r'
   exact SeqAt.RcAt.int_bool c tc b
  | int b =>
   rw [Rep] at h'
   subst h'; obtain ⟨t, rfl⟩ := r'
   exact SeqAt.RcAt.int_int c tc b t
  | str b =>
   rw [Rep] at h'
   subst h'; obtain ⟨t, rfl⟩ := r'
   exact SeqAt.RcAt.int_str c tc b t
  | lst es =>
   rw [Rep] at h'
   obtain ⟨b, ys, rfl, q', qs'⟩ := h'; cases r'
   obtain ⟨its', rv', p', _⟩ := I.list q'
   exact SeqAt.RcAt.int_list c tc p'.isList (by omega)
  | tup es =>
   rw [Rep] at h'
   obtain ⟨b, ys, rfl, q', qs'⟩ := h'; cases r'
   obtain ⟨its', rv', p', _⟩ := I.tuple q'
   exact SeqAt.RcAt.int_tuple c tc p' (by omega)
 | str c =>
  rw [Rep] at h; subst h; obtain ⟨tc, rfl⟩ := r
  cases e with
  | non =>
   rw [Rep] at h'
   subst h'; cases r'
   exact SeqAt.RcAt.str_none c tc
  | bl b =>
   rw [Rep] at h'
   subst h'; cases r'
   exact SeqAt.RcAt.str_bool c tc b
  | int b =>
   rw [Rep] at h'
   subst h'; obtain ⟨t, rfl⟩ := r'
   exact SeqAt.RcAt.str_int c tc b t
  | str b =>
   rw [Rep] at h'
   subst h'; obtain ⟨t, rfl⟩ := r'
   exact SeqAt.RcAt.str_str c tc b t
  | lst es =>
   rw [Rep] at h'
   obtain ⟨b, ys, rfl, q', qs'⟩ := h'; cases r'
   obtain ⟨its', rv', p', _⟩ := I.list q'
   exact SeqAt.RcAt.str_list c tc p'.isList (by omega)
  | tup es =>
   rw [Rep] at h'
   obtain ⟨b, ys, rfl, q', qs'⟩ := h'; cases r'
   obtain ⟨its', rv', p', _⟩ := I.tuple q'
   exact SeqAt.RcAt.str_tuple c tc p' (by omega)
 | lst ds =>
  rw [Rep] at h; obtain ⟨a, xs, rfl, q, qs⟩ := h; cases r
  obtain ⟨its, rv, p, _⟩ := I.list q
  cases e with
  | non =>
   rw [Rep] at h'
   subst h'; cases r'
   exact SeqAt.RcAt.list_none p.isList (by omega)
  | bl b =>
   rw [Rep] at h'
   subst h'; cases r'
   exact SeqAt.RcAt.list_bool b p.isList (by omega)
  | int b =>
   rw [Rep] at h'
   subst h'; obtain ⟨t, rfl⟩ := r'
   exact SeqAt.RcAt.list_int b t p.isList (by omega)
  | str b =>
   rw [Rep] at h'
   subst h'; obtain ⟨t, rfl⟩ := r'
   exact SeqAt.RcAt.list_str b t p.isList (by omega)
  | lst es =>
   rw [Rep] at h'
   obtain ⟨b, ys, rfl, q', qs'⟩ := h'; cases r'
   obtain ⟨its', rv', p', _⟩ := I.list q'
   rw [pyEq]
   rw [zay] at z
   have l1 := qs.length
   have l2 := qs'.length
   have l3 := rv.length
   have l4 := rv'.length
   by_cases hl : ds.length = es.length
   · rw [← za0 ds es hl]
     have := SeqAt.RcAt.lists (e := eqJ ds es) p.isList p'.isList (by simp; omega) (by omega) (fun j h1 h2 => ?_) (A := A)
     · simp only [List.size_toArray] at this
       rw [show ds.length = its.length by omega]
       exact this
     · have := zbz I A.in1 ds es xs ys its its' qs qs' rv rv' (by rw [Around.in1_units]; omega) j (by simpa using h1) (by simpa using h2)
       simpa using this
   · rw [zbh hl]
     exact SeqAt.RcAt.lists_lengths p.isList p'.isList (by simp; omega) (by omega)
  | tup es =>
   rw [Rep] at h'
   obtain ⟨b, ys, rfl, q', qs'⟩ := h'; cases r'
   obtain ⟨its', rv', p', _⟩ := I.tuple q'
   exact SeqAt.RcAt.list_tuple p.isList p' (by omega)
 | tup ds =>
  rw [Rep] at h; obtain ⟨a, xs, rfl, q, qs⟩ := h; cases r
  obtain ⟨its, rv, p, _⟩ := I.tuple q
  cases e with
  | non =>
   rw [Rep] at h'
   subst h'; cases r'
   exact SeqAt.RcAt.tuple_none p (by omega)
  | bl b =>
   rw [Rep] at h'
   subst h'; cases r'
   exact SeqAt.RcAt.tuple_bool b p (by omega)
  | int b =>
   rw [Rep] at h'
   subst h'; obtain ⟨t, rfl⟩ := r'
   exact SeqAt.RcAt.tuple_int b t p (by omega)
  | str b =>
   rw [Rep] at h'
   subst h'; obtain ⟨t, rfl⟩ := r'
   exact SeqAt.RcAt.tuple_str b t p (by omega)
  | lst es =>
   rw [Rep] at h'
   obtain ⟨b, ys, rfl, q', qs'⟩ := h'; cases r'
   obtain ⟨its', rv', p', _⟩ := I.list q'
   exact SeqAt.RcAt.tuple_list p p'.isList (by omega)
  | tup es =>
   rw [Rep] at h'
   obtain ⟨b, ys, rfl, q', qs'⟩ := h'; cases r'
   obtain ⟨its', rv', p', _⟩ := I.tuple q'
   rw [pyEq]
   rw [zay] at z
   have l1 := qs.length
   have l2 := qs'.length
   have l3 := rv.length
   have l4 := rv'.length
   have := SeqAt.RcAt.tuples (e := eqJ ds es) p p' (by omega) (fun j h1 h2 => ?_) (A := A)
   · simp only [List.size_toArray] at this
     by_cases hl : ds.length = es.length
     · rw [← za0 ds es hl]
       rw [show min its.length its'.length = ds.length by omega, show (its.length == its'.length) = true by simp; omega, Bool.and_true] at this
       exact this
     · rw [zbh hl]
       rw [show (its.length == its'.length) = false by simp; omega, Bool.and_false] at this
       exact this
   · have := zbz I A.in1 ds es xs ys its its' qs qs' rv rv' (by rw [Around.in1_units]; omega) j (by simpa using h1) (by simpa using h2)
     simpa using this
theorem zgy (I : Inv X pins σ H s) (A : Around) (d e : PD) (v w : V) (u y : Value) (h : Rep X.K H d v) (h' : Rep X.K H e w) (r : RelV v u) (r' : RelV w y) (z : A.units + zay d < cLine) : SeqAt.RcNeAt A s u y (!pyEq d e) := by
 cases d with
 | non =>
  rw [Rep] at h; subst h; cases r
  cases e with
  | non =>
   rw [Rep] at h'
   subst h'; cases r'
   rw [pyEq]; exact SeqAt.RcNeAt.none_none
  | bl b =>
   rw [Rep] at h'
   subst h'; cases r'
   exact SeqAt.RcNeAt.none_bool b
  | int b =>
   rw [Rep] at h'
   subst h'; obtain ⟨t, rfl⟩ := r'
   exact SeqAt.RcNeAt.none_int b t
  | str b =>
   rw [Rep] at h'
   subst h'; obtain ⟨t, rfl⟩ := r'
   exact SeqAt.RcNeAt.none_str b t
  | lst es =>
   rw [Rep] at h'
   obtain ⟨b, ys, rfl, q', qs'⟩ := h'; cases r'
   obtain ⟨its', rv', p', _⟩ := I.list q'
   exact SeqAt.RcNeAt.none_list p'.isList (by omega)
  | tup es =>
   rw [Rep] at h'
   obtain ⟨b, ys, rfl, q', qs'⟩ := h'; cases r'
   obtain ⟨its', rv', p', _⟩ := I.tuple q'
   exact SeqAt.RcNeAt.none_tuple p' (by omega)
 | bl c =>
  rw [Rep] at h; subst h; cases r
  cases e with
  | non =>
   rw [Rep] at h'
   subst h'; cases r'
   exact SeqAt.RcNeAt.bool_none c
  | bl b =>
   rw [Rep] at h'
   subst h'; cases r'
   exact SeqAt.RcNeAt.bool_bool c b
  | int b =>
   rw [Rep] at h'
   subst h'; obtain ⟨t, rfl⟩ := r'
   exact SeqAt.RcNeAt.bool_int c b t
  | str b =>
   rw [Rep] at h'
   subst h'; obtain ⟨t, rfl⟩ := r'
   exact SeqAt.RcNeAt.bool_str c b t
  | lst es =>
   rw [Rep] at h'
   obtain ⟨b, ys, rfl, q', qs'⟩ := h'; cases r'
   obtain ⟨its', rv', p', _⟩ := I.list q'
   exact SeqAt.RcNeAt.bool_list c p'.isList (by omega)
  | tup es =>
   rw [Rep] at h'
   obtain ⟨b, ys, rfl, q', qs'⟩ := h'; cases r'
   obtain ⟨its', rv', p', _⟩ := I.tuple q'
   exact SeqAt.RcNeAt.bool_tuple c p' (by omega)
 | int c =>
  rw [Rep] at h; subst h; obtain ⟨tc, rfl⟩ := r
  cases e with
  | non =>
   rw [Rep] at h'
   subst h'; cases r'
   exact SeqAt.RcNeAt.int_none c tc
  | bl b =>
   rw [Rep] at h'
   subst h'; cases r'
   exact SeqAt.RcNeAt.int_bool c tc b
  | int b =>
   rw [Rep] at h'
   subst h'; obtain ⟨t, rfl⟩ := r'
   exact SeqAt.RcNeAt.int_int c tc b t
  | str b =>
   rw [Rep] at h'
   subst h'; obtain ⟨t, rfl⟩ := r'
   exact SeqAt.RcNeAt.int_str c tc b t
  | lst es =>
   rw [Rep] at h'
   obtain ⟨b, ys, rfl, q', qs'⟩ := h'; cases r'
   obtain ⟨its', rv', p', _⟩ := I.list q'
   exact SeqAt.RcNeAt.int_list c tc p'.isList (by omega)
  | tup es =>
   rw [Rep] at h'
   obtain ⟨b, ys, rfl, q', qs'⟩ := h'; cases r'
   obtain ⟨its', rv', p', _⟩ := I.tuple q'
   exact SeqAt.RcNeAt.int_tuple c tc p' (by omega)
 | str c =>
  rw [Rep] at h; subst h; obtain ⟨tc, rfl⟩ := r
  cases e with
  | non =>
   rw [Rep] at h'
   subst h'; cases r'
   exact SeqAt.RcNeAt.str_none c tc
  | bl b =>
   rw [Rep] at h'
   subst h'; cases r'
   exact SeqAt.RcNeAt.str_bool c tc b
  | int b =>
   rw [Rep] at h'
   subst h'; obtain ⟨t, rfl⟩ := r'
   exact SeqAt.RcNeAt.str_int c tc b t
  | str b =>
   rw [Rep] at h'
   subst h'; obtain ⟨t, rfl⟩ := r'
   exact SeqAt.RcNeAt.str_str c tc b t
  | lst es =>
   rw [Rep] at h'
   obtain ⟨b, ys, rfl, q', qs'⟩ := h'; cases r'
   obtain ⟨its', rv', p', _⟩ := I.list q'
   exact SeqAt.RcNeAt.str_list c tc p'.isList (by omega)
  | tup es =>
   rw [Rep] at h'
   obtain ⟨b, ys, rfl, q', qs'⟩ := h'; cases r'
   obtain ⟨its', rv', p', _⟩ := I.tuple q'
   exact SeqAt.RcNeAt.str_tuple c tc p' (by omega)
 | lst ds =>
  rw [Rep] at h; obtain ⟨a, xs, rfl, q, qs⟩ := h; cases r
  obtain ⟨its, rv, p, _⟩ := I.list q
  cases e with
  | non =>
   rw [Rep] at h'
   subst h'; cases r'
   exact SeqAt.RcNeAt.list_none p.isList (by omega)
  | bl b =>
   rw [Rep] at h'
   subst h'; cases r'
   exact SeqAt.RcNeAt.list_bool b p.isList (by omega)
  | int b =>
   rw [Rep] at h'
   subst h'; obtain ⟨t, rfl⟩ := r'
   exact SeqAt.RcNeAt.list_int b t p.isList (by omega)
  | str b =>
   rw [Rep] at h'
   subst h'; obtain ⟨t, rfl⟩ := r'
   exact SeqAt.RcNeAt.list_str b t p.isList (by omega)
  | lst es =>
   rw [Rep] at h'
   obtain ⟨b, ys, rfl, q', qs'⟩ := h'; cases r'
   obtain ⟨its', rv', p', _⟩ := I.list q'
   rw [pyEq]
   rw [zay] at z
   have l1 := qs.length
   have l2 := qs'.length
   have l3 := rv.length
   have l4 := rv'.length
   by_cases hl : ds.length = es.length
   · rw [← za0 ds es hl]
     have := SeqAt.RcNeAt.lists (e := eqJ ds es) p.isList p'.isList (by simp; omega) (by omega) (fun j h1 h2 => ?_) (A := A)
     · simp only [List.size_toArray] at this
       rw [show ds.length = its.length by omega]
       exact this
     · have := zbz I A.in1 ds es xs ys its its' qs qs' rv rv' (by rw [Around.in1_units]; omega) j (by simpa using h1) (by simpa using h2)
       simpa using this
   · rw [zbh hl]
     exact SeqAt.RcNeAt.lists_lengths p.isList p'.isList (by simp; omega) (by omega)
  | tup es =>
   rw [Rep] at h'
   obtain ⟨b, ys, rfl, q', qs'⟩ := h'; cases r'
   obtain ⟨its', rv', p', _⟩ := I.tuple q'
   exact SeqAt.RcNeAt.list_tuple p.isList p' (by omega)
 | tup ds =>
  rw [Rep] at h; obtain ⟨a, xs, rfl, q, qs⟩ := h; cases r
  obtain ⟨its, rv, p, _⟩ := I.tuple q
  cases e with
  | non =>
   rw [Rep] at h'
   subst h'; cases r'
   exact SeqAt.RcNeAt.tuple_none p (by omega)
  | bl b =>
   rw [Rep] at h'
   subst h'; cases r'
   exact SeqAt.RcNeAt.tuple_bool b p (by omega)
  | int b =>
   rw [Rep] at h'
   subst h'; obtain ⟨t, rfl⟩ := r'
   exact SeqAt.RcNeAt.tuple_int b t p (by omega)
  | str b =>
   rw [Rep] at h'
   subst h'; obtain ⟨t, rfl⟩ := r'
   exact SeqAt.RcNeAt.tuple_str b t p (by omega)
  | lst es =>
   rw [Rep] at h'
   obtain ⟨b, ys, rfl, q', qs'⟩ := h'; cases r'
   obtain ⟨its', rv', p', _⟩ := I.list q'
   exact SeqAt.RcNeAt.tuple_list p p'.isList (by omega)
  | tup es =>
   rw [Rep] at h'
   obtain ⟨b, ys, rfl, q', qs'⟩ := h'; cases r'
   obtain ⟨its', rv', p', _⟩ := I.tuple q'
   rw [pyEq]
   rw [zay] at z
   have l1 := qs.length
   have l2 := qs'.length
   have l3 := rv.length
   have l4 := rv'.length
   have := SeqAt.RcNeAt.tuples (e := eqJ ds es) p p' (by omega) (fun j h1 h2 => ?_) (A := A)
   · simp only [List.size_toArray] at this
     by_cases hl : ds.length = es.length
     · rw [← za0 ds es hl]
       rw [show min its.length its'.length = ds.length by omega, show (its.length == its'.length) = true by simp; omega, Bool.and_true] at this
       exact this
     · rw [zbh hl]
       rw [show (its.length == its'.length) = false by simp; omega, Bool.and_false] at this
       exact this
   · have := zbz I A.in1 ds es xs ys its its' qs qs' rv rv' (by rw [Around.in1_units]; omega) j (by simpa using h1) (by simpa using h2)
     simpa using this
end
def zcO (X : Cx) : Prop := X.A.units + 60 < cLine
section
variable {X : Cx}
def rNeD (K : PySem.W.Frag) : R2 := fun x y H Q => ∃ d e, Rep K H d x ∧ Rep K H e y ∧ zay d < 60 ∧ Q (.bl (!pyEq d e)) H
theorem zgg (hr : zcO X) : OpR X (compareOp .NotEq) (rNeD X.K) := by
 intro pins s σ H x y v u Q I rx ry h
 obtain ⟨d, e, h1, h2, h3, q⟩ := h
 unfold zcO at hr
 exact zgy I X.A d e x y v u h1 h2 rx ry (by omega) X.prog X.w _ _ ⟨.bl _, H, I, rfl, q⟩
theorem zbs {A : Around} {k : Nat} (hr : Room k A) : A.units + 60 < cLine := Nat.lt_of_le_of_lt (Nat.add_le_add_left (by decide : 60 ≤ 64) _) hr.units
theorem zaw {n : String} : zc0 X (.builtin "isinstance") (fun xs H Q => ∃ x t c b, xs = [x, .ty c] ∧ TyOf X.K H x (.type t) ∧ PySem.W.kitOne X.K (.type t) (.type c) = some b ∧ Q (.bl b) H) := by
 intro pins s σ H xs us Q I r h
 obtain ⟨x, t, c, b, rfl, ty, e, q⟩ := h
 obtain ⟨u, w', rfl, ru, rw'⟩ := zgS r
 cases rw'
 exact zhN I ru ty e fun tk => ⟨.bl b, H, I.tok tk, rfl, q⟩
end
section
variable {prog : Program} {w : World} {A : Around} {E : Value → Shared → Prop}
end
section
variable {X : Cx}
end
section
variable {K : PySem.W.Frag} {a p : Addr} {xs : List V} {g : TG} {tc : TT} {te : TE} {σ : St} {H : Hp} {Q : VK}
abbrev zdK (p : Addr) (g : TG) (tc : TT) (te : TE) (ys : List V) (x : V) (σ : St) (H : Hp) (N : St → List V → Hp → Prop) : Prop :=
 g x σ H fun σ2 H2 => tc σ2 H2 fun b H3 => if b = true then te σ2 H3 fun y H4 => H4 p = some (.lst ys) ∧ N σ2 (ys ++ [y]) (upd H4 p (.lst (ys ++ [y]))) else N σ2 ys H3
theorem zdT {n : Nat} {J : It} {js : Cap} (Pv : Nat → St → List V → Hp → Prop) (h0 : Pv 0 (inn js σ) [] (upd H p (.lst [])))
 (hl : ∀ i σ ys H, i ≤ n → Pv i σ ys H → H p = some (.lst ys) ∧ ys.length < sizeLine)
 (hgo : ∀ i σ ys H, i < n → Pv i σ ys H → J.go i H) (hst : ∀ σ ys H, Pv n σ ys H → J.stop n H)
 (hs : ∀ (i : Nat) x σ ys H H' (N : St → List V → Hp → Prop), i < n → J.yld i H x H' → Pv i σ ys H → (∀ σ' ys' H', Pv (i + 1) σ' ys' H' → N σ' ys' H') → zdK p g tc te ys x σ H' N)
 (hd : ∀ σ ys H, Pv n σ ys H → Q (.ref p) H) :
 zcw J p js g tc te σ H Q := by
 refine ⟨fun i m σ ys H => m = n - i ∧ i ≤ n ∧ Pv i σ ys H, ⟨n, by simp, Nat.zero_le _, h0⟩, ?_⟩
 rintro i m σ ys H ⟨rfl, hi, pv⟩
 obtain ⟨q1, q2⟩ := hl i σ ys H hi pv
 refine ⟨q1, ?_⟩
 by_cases lt : i < n
 · exact .inr ⟨hgo i σ ys H lt pv, q2, fun x H' y => hs i x σ ys H H' (fun σ2 ys2 H2 => ∃ m', m' < n - i ∧ m' = n - (i + 1) ∧ i + 1 ≤ n ∧ Pv (i + 1) σ2 ys2 H2) lt y pv fun σ' ys' H' p' => ⟨n - (i + 1), by omega, rfl, lt, p'⟩⟩
 · have e : i = n := by omega
   subst e
   exact .inl ⟨hst σ ys H pv, hd σ ys H pv⟩
theorem zeo {js : Cap} (Pv : Nat → St → List V → Hp → Prop) (h0 : Pv 0 (inn js σ) [] (upd H p (.lst [])))
 (hl : ∀ i σ ys H, i ≤ xs.length → Pv i σ ys H → SqL K H a xs ∧ H p = some (.lst ys) ∧ ys.length < sizeLine)
 (hs : ∀ (i : Nat) x σ ys H (N : St → List V → Hp → Prop), xs[i]? = some x → Pv i σ ys H → (∀ σ' ys' H', Pv (i + 1) σ' ys' H' → N σ' ys' H') → zdK p g tc te ys x σ H N)
 (hd : ∀ σ ys H, Pv xs.length σ ys H → Q (.ref p) H) : zcw (Itl K a) p js g tc te σ H Q :=
 zdT (n := xs.length) (J := Itl K a) (js := js) (σ := σ) (H := H) (p := p) (Q := Q) (g := g) (tc := tc) (te := te) Pv h0 (fun i σ ys H hi pv => (hl i σ ys H hi pv).2)
  (fun i σ ys H hi pv => ⟨xs, xs[i], (hl i σ ys H (Nat.le_of_lt hi) pv).1, by simp [hi]⟩) (fun σ ys H pv => ⟨xs, (hl _ σ ys H (Nat.le_refl _) pv).1, Nat.le_refl _⟩)
  (fun i x σ ys H H' N hi y pv hN => by
   obtain ⟨e, y⟩ := y
   subst e
   exact hs i x σ ys _ N (y xs (hl i σ ys _ (Nat.le_of_lt hi) pv).1) pv hN) hd
theorem zjd {js : Cap} (Pv : Nat → St → List V → Hp → Prop) (h0 : Pv 0 (inn js σ) [] (upd H p (.lst [])))
 (hl : ∀ i σ ys H, i ≤ xs.length → Pv i σ ys H → SqT K H a xs ∧ H p = some (.lst ys) ∧ ys.length < sizeLine)
 (hs : ∀ (i : Nat) x σ ys H (N : St → List V → Hp → Prop), xs[i]? = some x → Pv i σ ys H → (∀ σ' ys' H', Pv (i + 1) σ' ys' H' → N σ' ys' H') → zdK p g tc te ys x σ H N)
 (hd : ∀ σ ys H, Pv xs.length σ ys H → Q (.ref p) H) : zcw (Itt K a) p js g tc te σ H Q :=
 zdT (n := xs.length) (J := Itt K a) (js := js) (σ := σ) (H := H) (p := p) (Q := Q) (g := g) (tc := tc) (te := te) Pv h0 (fun i σ ys H hi pv => (hl i σ ys H hi pv).2)
  (fun i σ ys H hi pv => ⟨xs, xs[i], (hl i σ ys H (Nat.le_of_lt hi) pv).1, by simp [hi]⟩) (fun σ ys H pv => ⟨xs, (hl _ σ ys H (Nat.le_refl _) pv).1, Nat.le_refl _⟩)
  (fun i x σ ys H H' N hi y pv hN => by
   obtain ⟨e, y⟩ := y
   subst e
   exact hs i x σ ys _ N (y xs (hl i σ ys _ (Nat.le_of_lt hi) pv).1) pv hN) hd
theorem zen {js : Cap} {lo : Int} {n : Nat} (Pv : Nat → St → List V → Hp → Prop) (h0 : Pv 0 (inn js σ) [] (upd H p (.lst [])))
 (hl : ∀ i σ ys H, i ≤ n → Pv i σ ys H → H p = some (.lst ys) ∧ ys.length < sizeLine)
 (hs : ∀ (i : Nat) σ ys H (N : St → List V → Hp → Prop), i < n → Pv i σ ys H → (∀ σ' ys' H', Pv (i + 1) σ' ys' H' → N σ' ys' H') → zdK p g tc te ys (.int (lo + i)) σ H N)
 (hd : ∀ σ ys H, Pv n σ ys H → Q (.ref p) H) : zcw (Itr lo n) p js g tc te σ H Q :=
 zdT (n := n) (J := Itr lo n) (js := js) (σ := σ) (H := H) (p := p) (Q := Q) (g := g) (tc := tc) (te := te) Pv h0 hl
  (fun i σ ys H hi pv => hi) (fun σ ys H pv => Nat.le_refl n)
  (fun i x σ ys H H' N hi y pv hN => by
   obtain ⟨e, y⟩ := y
   subst e y
   exact hs i σ ys _ N hi pv hN) hd
end
def zgr (outer : Scope) (N N' : List Str) (js : Cap) (scope : Scope) : Bool :=
 decide (js.length = N'.length) && (scope.kind == .function) && scope.names.all (fun p => (p.2 != .cell || scope.names.lookup p.1 == some .cell) && (p.2 != .local || scope.names.lookup p.1 == some .local) && (p.2 != .free || (outer.names.lookup p.1 == some .cell || outer.names.lookup p.1 == some .free)))
  && (List.range js.length).all fun i => match js[i]? with
   | some (some j) => (match N'[i]? with | some x => N[j]? == some x && scope.names.lookup x == some .free | none => false)
   | _ => true
theorem zcL {X : Cx} {N N' : List Str} {js : Cap} {scope outer : Scope} (h : zgr outer N N' js scope = true) (hN : X.N = N := by rfl) (ho : X.env.scope = outer := by rfl) : CapOk X N' js scope := by
 subst hN ho
 unfold zgr at h
 rw [Bool.and_eq_true, Bool.and_eq_true, Bool.and_eq_true] at h
 obtain ⟨⟨⟨h1, h2⟩, h3⟩, h4⟩ := h
 rw [List.all_eq_true] at h3 h4
 refine ⟨of_decide_eq_true h1, eq_of_beq h2, fun p hp e => ?_, fun p hp e => ?_, fun p hp e => ?_, fun i j e => ?_⟩
 · have := h3 p hp
   rw [e] at this
   simp at this
   exact this
 · have := h3 p hp
   rw [e] at this
   simp at this
   exact this
 · have := h3 p hp
   rw [e] at this
   simp at this
   exact this
 · have hi : i < js.length := (List.getElem?_eq_some_iff.mp e).1
   have := h4 i (List.mem_range.mpr hi)
   rw [e] at this
   simp only at this
   cases q : N'[i]? with
   | none => rw [q] at this; cases this
   | some x =>
    rw [q] at this
    simp only [Bool.and_eq_true, beq_iff_eq] at this
    exact ⟨x, rfl, this.1, this.2⟩
def FnH (P : Program) (w : World) (K : PySem.W.Frag) (mg : Str → Option Value) (base : Heap) (k : Nat) (x : Str) (ps : List Str) (sp : Sp) : Prop :=
 ∃ f fd, FnOk P w K mg base CX0 k f fd ps sp ∧ Binds K fd ps [] ∧ PySem.W.keepIn K (.ref f) = true ∧ mg x = some (.ref f)
section
variable {X : Cx} {k : Nat} {x : Str} {ps : List Str} {sp : Sp} {e : Expr} {es : List Expr} {t : TA} {p pos : Pos}
theorem zau (F : FnH X.prog X.w X.K X.mg X.base k x ps sp) (hr : Room k X.A) (hg : Gl X x) (ha : PA X (e :: es) t) (hdb : (x == ("__debug__" : Str)) = false := by decide)
 (he : starEach (e :: es) X.env = (false, eval e X.env) :: starEach es X.env := by rfl) (hpl : (backTo pos (starEach es X.env)).any (·.1) = false := by rfl) : PE X (.Call (.Name x p) (e :: es) [] pos) (zkf sp [] E0 t) := by
 obtain ⟨f, fd, h1, h2, h3, h4⟩ := F
 exact zjI h1 hr hg h4 h3 h2 .nil zku ha hdb he hpl
end
structure Bl (mg : Str → Option Value) : Prop where
 len_ : mg "len" = none
 range_ : mg "range" = none
 isinstance_ : mg "isinstance" = none
 int_ : mg "int" = none
 bool_ : mg "bool" = none
 tuple_ : mg "tuple" = none
 list_ : mg "list" = none
 max_ : mg "max" = none
 min_ : mg "min" = none
 all_ : mg "all" = none
 zip_ : mg "zip" = none
 str_ : mg "str" = none
 dict_ : mg "dict" = none
 sorted_ : mg "sorted" = none
 set_ : mg "set" = none
 any_ : mg "any" = none
 sum_ : mg "sum" = none
 enumerate_ : mg "enumerate" = none
 repr_ : mg "repr" = none
 ord_ : mg "ord" = none
 chr_ : mg "chr" = none
 abs_ : mg "abs" = none
 reversed_ : mg "reversed" = none
theorem zic : bootBuiltins "int" = some (.type "int") := by decide +kernel
theorem zf2 : bootBuiltins "bool" = some (.type "bool") := by decide +kernel
theorem zbW : bootBuiltins "tuple" = some (.type "tuple") := by decide +kernel
theorem zcz : bootBuiltins "list" = some (.type "list") := by decide +kernel
theorem zib : bootBuiltins "str" = some (.type "str") := by decide +kernel
theorem zal : bootBuiltins "isinstance" = some (.builtin "isinstance") := by decide +kernel
theorem zbN : bootBuiltins "len" = some (.builtin "len") := by decide +kernel
theorem zkU : bootBuiltins "max" = some (.builtin "max") := by decide +kernel
theorem zjj : bootBuiltins "min" = some (.builtin "min") := by decide +kernel
theorem ze6 : bootBuiltins "all" = some (.builtin "all") := by decide +kernel
theorem ze5 : bootBuiltins "sorted" = some (.builtin "sorted") := by decide +kernel
theorem zkg {n : Nat} (h : n ≤ 1000) : n ≤ sizeLine := Nat.le_of_lt (zav h)
theorem zaf {H : Hp} {p : Addr} (h : H p = none) (o : HO) : Same H (upd H p o) := fun b u q => by rw [zak (zam q h)]; exact q
def eV : Option Int → V
 | none => .non
 | some i => .int i
def SameB (b g : Addr) (H H' : Hp) : Prop := ∀ a o, H a = some o → a ≠ b → a ≠ g → H' a = some o
theorem SameB.trans {b g : Addr} {H H1 H2 : Hp} (x : SameB b g H H1) (y : SameB b g H1 H2) : SameB b g H H2 := fun a o h n1 n2 => y a o (x a o h n1 n2) n1 n2
theorem Same.sameB {b g : Addr} {H H1 : Hp} (x : Same H H1) : SameB b g H H1 := fun a o h _ _ => x a o h
theorem zgb {K : PySem.W.Frag} {H : Hp} : ∀ ns : List Int, Reps K H (ns.map PD.int) (ns.map V.int)
 | [] => by show Reps K H [] []; rw [Reps]
 | n :: ns => by
  show Reps K H (.int n :: ns.map PD.int) (.int n :: ns.map V.int)
  rw [Reps]
  exact ⟨_, _, rfl, by rw [Rep], zgb ns⟩
theorem zdV : ∀ ns : List Int, zaz (ns.map PD.int) = 0
 | [] => by show zaz [] = 0; rw [zaz]
 | n :: ns => by
  show zaz (.int n :: ns.map PD.int) = 0
  rw [zaz, zdV ns, zay]
  all_goals simp
theorem zkB {K : PySem.W.Frag} {H : Hp} {a p : Addr} {ns : List Int} {Q : VK} (h : SqL K H a (ns.map V.int)) (hp : SqL K H p []) (q : Q (.bl (!ns.isEmpty)) H) : rNeD K (.ref a) (.ref p) H Q := by
 refine ⟨.lst (ns.map PD.int), .lst [], by rw [Rep]; exact ⟨a, _, rfl, h, zgb ns⟩, by rw [Rep]; exact ⟨p, _, rfl, hp, by rw [Reps]⟩, by rw [zay, zdV]; decide, ?_⟩
 cases ns with
 | nil => rw [pyEq, show zaQ (([] : List Int).map PD.int) [] = true from zco []]; exact q
 | cons n ns => rw [pyEq, zbh (by simp)]; exact q
theorem at0 {α : Type} {x : α} {r : List α} : atI (x :: r) 0 = some x := zbX (j := 0) rfl
theorem ix0 {α : Type} {x : α} {r : List α} : ixN (x :: r).length 0 = some 0 := by
 unfold ixN
 rw [if_pos (by decide), if_pos (by rw [List.length_cons]; omega)]
 rfl
theorem zkX {ls : List Int} {i : Int} (h0 : 0 ≤ i) (h1 : i < (ls.length : Int)) : ∃ v, atI (ls.map V.int) i = some (.int v) ∧ v ∈ ls := by
 obtain ⟨k, rfl⟩ := Int.eq_ofNat_of_zero_le h0
 have hk : k < ls.length := by omega
 exact ⟨ls[k], zbX (by rw [List.getElem?_map, List.getElem?_eq_getElem hk]; rfl), List.getElem_mem _⟩
theorem sz0 : (0 : Nat) ≤ sizeLine := Nat.zero_le _
theorem zar {α : Type} {l : List α} {i : Nat} {x : α} (h : l[i]? = some x) : l.take (i + 1) = l.take i ++ [x] := by
 rw [List.take_succ, h]
 rfl
theorem zhI {K : PySem.W.Frag} {H : Hp} {a p : Addr} {Q : VK} {js : Cap} {σ cap : St} {tc : TT} {te : TE} (ns : List Int) (f : Int → Int) (c : Int → Bool) (hn : ns.length ≤ 900) (e : SqL K H a (ns.map V.int)) (hp : H p = none) (hσ : inn js σ = none :: cap)
 (ht : ∀ n H' (R : Bool → Hp → Prop), Same H H' → R (c n) H' → tc (some (.int n) :: cap) H' R) (he : ∀ n H' (R : VK), Same H H' → R (.int (f n)) H' → te (some (.int n) :: cap) H' R)
 (hq : ∀ H', Same H H' → H' p = some (.lst (((ns.filter c).map f).map V.int)) → Q (.ref p) H') : zcw (Itl K a) p js (zfT 0) tc te σ H Q := by
 have s0 := zaf hp (.lst [])
 refine zeo (xs := ns.map V.int) (fun i σ' ys H' => (∃ v, σ' = v :: cap) ∧ Same H H' ∧ H' p = some (.lst ys) ∧ ys = ((((ns.take i).filter c).map f).map V.int)) ⟨⟨_, hσ⟩, s0, zad, rfl⟩ ?_ ?_ ?_
 · rintro i σ' ys H' hi ⟨_, s, h1, h2⟩
   refine ⟨s.seq e, h1, ?_⟩
   rw [h2]
   simp only [List.length_map]
   have := List.length_filter_le c (ns.take i)
   rw [List.length_take] at this
   exact zav (by omega)
 · rintro i x σ' ys H' N hx ⟨⟨v, rfl⟩, s, h1, h2⟩ hN
   rw [List.getElem?_map] at hx
   cases hn' : ns[i]? with
   | none => rw [hn'] at hx; cases hx
   | some n =>
    rw [hn'] at hx
    have hx : V.int n = x := Option.some.inj hx
    subst hx
    refine ht n H' _ s ?_
    have e1 := zar hn'
    cases hc : c n with
    | true =>
     refine iteT (he n H' _ s ⟨h1, hN _ _ _ ⟨⟨_, rfl⟩, ?_, zad, ?_⟩⟩)
     · intro b o q
       have : b ≠ p := fun z => by rw [z, hp] at q; cases q
       rw [zak this]
       exact s b o q
     · rw [h2, e1, List.filter_append, List.filter_cons, if_pos hc]
       simp
    | false =>
     refine iteF (hN _ _ _ ⟨⟨_, rfl⟩, s, h1, ?_⟩)
     rw [h2, e1, List.filter_append, List.filter_cons, if_neg (by rw [hc]; exact Bool.false_ne_true)]
     simp
 · rintro σ' ys H' ⟨_, s, h1, h2⟩
   refine hq H' s ?_
   rw [h1, h2, List.length_map, List.take_length]
theorem Same.seqT {K : PySem.W.Frag} {H H' : Hp} {a : Addr} {xs : List V} (e : Same H H') (h : SqT K H a xs) : SqT K H' a xs := by
 rcases h with (h | ⟨o, h⟩) | h
 · exact .inl (.inl (e _ _ h))
 · exact .inl (.inr ⟨o, e _ _ h⟩)
 · exact .inr h
def Itv (xs : List V) : It := ⟨fun i _ => i < xs.length, fun i H x H' => H' = H ∧ xs[i]? = some x, fun i _ => xs.length ≤ i⟩
theorem zdY {P : Program} {w : World} {K : PySem.W.Frag} {tg : Expr} (it : Addr) (x : Str) (t : Tok) : Turn P w K tg (Itv (x.cps.toList.map fun c => V.str ⟨#[c]⟩)) [it] it (fun i h => h.IsStrIter it "str_ascii_iterator" x t i) where
 mem := by simp
 obj := fun i h st b hb => by
  have e : b = it := by simpa using hb
  subst e
  obtain ⟨o, e, c, d⟩ := st
  exact ⟨o, e, fun v z => by rw [d] at z; cases z⟩
 keep := fun i h h' st k => let ⟨o, ho, r⟩ := st; ⟨o, k it (by simp) o ho, r⟩
 item := by
  intro X hP hw hK hc i pins s σ H E I hf st hg
  subst hP hw hK
  have hg : i < (x.cps.toList.map fun c => V.str ⟨#[c]⟩).length := hg
  rw [List.length_map, Array.length_toList] at hg
  obtain ⟨f0, f1, f2, f3, f4, f5⟩ := hf it (by simp)
  refine wpAny_pyNext_ascii_item st (c := x.cps[i]) (by simp [hg]) fun h' st' sb => ?_
  have I1 : Inv X pins σ H { s with heap := h', toks := s.toks + 1 } := I.turned (fun b o hb e => (sb.2 b hb).trans e) f0 f1 f3 f4 f5
  obtain ⟨o, e, c, d⟩ := id st'
  exact ⟨_, rfl, zgN (s := { s with heap := h', toks := s.toks + 1 }) e c d (by decide) ⟨.str ⟨#[x.cps[i]]⟩, H, I1, ⟨_, rfl⟩, ⟨rfl, by rw [List.getElem?_map, Array.getElem?_toList, Array.getElem?_eq_getElem hg]; rfl⟩, st', fun b hb => (hf b hb).1⟩⟩
 done := by
  intro X hP hw hK hc i pins s σ H E I hf st hg
  subst hP hw hK
  have hg : (x.cps.toList.map fun c => V.str ⟨#[c]⟩).length ≤ i := hg
  rw [List.length_map, Array.length_toList] at hg
  obtain ⟨f0, f1, f2, f3, f4, f5⟩ := hf it (by simp)
  exact wpAny_pyNext_ascii_end (I.ok.hd hc) st (by simpa using hg) fun h' eb => ⟨rfl, I.turned (t' := s.toks) (fun b o hb e => eb b o hb e) f0 f1 f3 f4 f5⟩
 self := fun _ _ _ _ _ st h => wpAny_pyIter_striter_ascii st h
theorem zeD {P : Program} {w : World} {K : PySem.W.Frag} {tg : Expr} (it : Addr) (x : Str) (t : Tok) : Turn P w K tg (Itv (x.cps.toList.map fun c => V.str ⟨#[c]⟩)) [it] it (fun i h => h.IsStrIter it "str_iterator" x t i) where
 mem := by simp
 obj := fun i h st b hb => by
  have e : b = it := by simpa using hb
  subst e
  obtain ⟨o, e, c, d⟩ := st
  exact ⟨o, e, fun v z => by rw [d] at z; cases z⟩
 keep := fun i h h' st k => let ⟨o, ho, r⟩ := st; ⟨o, k it (by simp) o ho, r⟩
 item := by
  intro X hP hw hK hc i pins s σ H E I hf st hg
  subst hP hw hK
  have hg : i < (x.cps.toList.map fun c => V.str ⟨#[c]⟩).length := hg
  rw [List.length_map, Array.length_toList] at hg
  obtain ⟨f0, f1, f2, f3, f4, f5⟩ := hf it (by simp)
  refine wpAny_pyNext_wide_item st (c := x.cps[i]) (by simp [hg]) fun h' st' sb => ?_
  have I1 : Inv X pins σ H { s with heap := h', toks := s.toks + 1 } := I.turned (fun b o hb e => (sb.2 b hb).trans e) f0 f1 f3 f4 f5
  obtain ⟨o, e, c, d⟩ := id st'
  exact ⟨_, rfl, zgN (s := { s with heap := h', toks := s.toks + 1 }) e c d (by decide) ⟨.str ⟨#[x.cps[i]]⟩, H, I1, ⟨_, rfl⟩, ⟨rfl, by rw [List.getElem?_map, Array.getElem?_toList, Array.getElem?_eq_getElem hg]; rfl⟩, st', fun b hb => (hf b hb).1⟩⟩
 done := by
  intro X hP hw hK hc i pins s σ H E I hf st hg
  subst hP hw hK
  have hg : (x.cps.toList.map fun c => V.str ⟨#[c]⟩).length ≤ i := hg
  rw [List.length_map, Array.length_toList] at hg
  obtain ⟨f0, f1, f2, f3, f4, f5⟩ := hf it (by simp)
  exact wpAny_pyNext_wide_end (I.ok.hd hc) st (by simpa using hg) fun h' eb => ⟨rfl, I.turned (t' := s.toks) (fun b o hb e => eb b o hb e) f0 f1 f3 f4 f5⟩
 self := fun _ _ _ _ _ st h => wpAny_pyIter_striter_wide st h
section
variable {X : Cx} {tg : Expr}
def signs (x : Str) : List V := x.cps.toList.map fun c => V.str ⟨#[c]⟩
def iStr (tl : TE) : TI := fun σ H R => tl σ H fun v H1 => ∃ x, v = .str x ∧ R (Itv (signs x)) H1
theorem zkq {l : Expr} {tl : TE} (hl : PE X l tl) : PI X tg l (iStr tl) := by
 intro pins s σ H R I h
 refine thn (hl pins s σ H _ I h) fun v s1 ⟨y, H1, I1, r1, q1⟩ => ?_
 obtain ⟨x, e, q⟩ := q1
 subst e
 obtain ⟨t, rfl⟩ := r1
 cases ha : x.cps.all (· < 128)
 · refine wpAny_pyIter_wide ha ?_
   refine ⟨s1.heap.objs.size, [s1.heap.objs.size], _, _, H1, rfl, I1.kept (t' := s1.toks) fun b o e => Heap.get?_push_of_some _ e, zeD _ x t, ⟨_, Heap.get?_push_size _ rfl, rfl, rfl⟩, fun b hb => ?_, q⟩
   have e : b = s1.heap.objs.size := by simpa using hb
   subst e
   exact I1.fpOk (Nat.le_refl _) (I1.hok.fresh (Nat.le_refl _))
 · refine wpAny_pyIter_ascii ha ?_
   refine ⟨s1.heap.objs.size, [s1.heap.objs.size], _, _, H1, rfl, I1.kept (t' := s1.toks) fun b o e => Heap.get?_push_of_some _ e, zdY _ x t, ⟨_, Heap.get?_push_size _ rfl, rfl, rfl⟩, fun b hb => ?_, q⟩
   have e : b = s1.heap.objs.size := by simpa using hb
   subst e
   exact I1.fpOk (Nat.le_refl _) (I1.hok.fresh (Nat.le_refl _))
theorem zeR : OpR X (compareOp .LtE) (fun x y H Q => ∃ i j, x = .str i ∧ y = .str j ∧ Q (.bl (!decide (j.cps.toList < i.cps.toList))) H) := by
 intro pins s σ H x y v u Q I rx ry h
 obtain ⟨i, j, rfl, rfl, q⟩ := h
 obtain ⟨t, rfl⟩ := rx
 obtain ⟨t', rfl⟩ := ry
 exact PySem.P.le_str (zaF I q rfl)
theorem zcN (hc : X.calm = true) : zc0 X (.builtin "all") (fun xs H Q => ∃ (a : Addr) (bs : List Bool), xs = [.ref a] ∧ SqL X.K H a (bs.map V.bl) ∧ Q (.bl (bs.all id)) H) := by
 intro pins s σ H xs us Q I r h
 obtain ⟨a, bs, rfl, hq, q⟩ := h
 obtain ⟨u, rfl, ru⟩ := zdW r
 cases ru
 obtain ⟨its, rv, p, hzz⟩ := I.list hq
 have ll := rv.length
 rw [List.length_map] at ll
 refine call_all_walk (wpAny_pyIter_list p.isList ?_)
 obtain ⟨o, ho, _⟩ := id p.isList
 have lt := Heap.lt_size ho
 refine ⟨s.heap.objs.size, _, _, _, _, _, fun i => bs.getD i false, rfl, Walks.list (A := X.A.in1) (I.ok.hd hc) s.heap.objs.size a (Nat.ne_of_lt lt) its.toArray, ⟨⟨_, Heap.get?_push_size _ rfl, rfl, rfl⟩, p.isList.at fun o' e => Heap.get?_push_of_some _ e⟩, ?_, fun g t' k => ?_⟩
 · intro i v s' Q' E' hv q'
   have hi : its[i]? = some v := by simpa using hv
   have hl : i < its.length := (List.getElem?_eq_some_iff.mp hi).1
   have e : (bs.map V.bl)[i]? = some (.bl (bs.getD i false)) := by
    rw [List.getElem?_map, List.getElem?_eq_getElem (by omega), List.getD_eq_getElem?_getD, List.getElem?_eq_getElem (by omega)]
    rfl
   obtain ⟨u, h1, h2⟩ := Vals.get rv e
   rw [hi] at h1
   cases h1
   cases h2
   exact wpAny_truthy_bool q'
 · refine ⟨.bl (bs.all id), H, I.kept (fun b o' e => k b o' ?_ (Heap.get?_push_of_some _ e)), ?_, q⟩
   · intro z
     exact absurd (List.mem_singleton.mp z) (Nat.ne_of_lt (Heap.lt_size e))
   · show Value.bool _ = Value.bool _
     congr 1
     rw [List.size_toArray, ← ll]
     clear rv ll hq q p ho lt hzz
     induction bs with
     | nil => rfl
     | cons b r ih =>
      rw [List.length_cons, List.range_succ_eq_map, List.all_cons, List.all_map, List.all_cons, ← ih]
      rfl
end
theorem zkG {xs : List V} {p : Addr} {g : TG} {tc : TT} {te : TE} {σ : St} {H : Hp} {Q : VK} {js : Cap} (Pv : Nat → St → List V → Hp → Prop) (h0 : Pv 0 (inn js σ) [] (upd H p (.lst [])))
 (hl : ∀ i σ ys H, i ≤ xs.length → Pv i σ ys H → H p = some (.lst ys) ∧ ys.length < sizeLine)
 (hs : ∀ (i : Nat) x σ ys H (N : St → List V → Hp → Prop), xs[i]? = some x → Pv i σ ys H → (∀ σ' ys' H', Pv (i + 1) σ' ys' H' → N σ' ys' H') → zdK p g tc te ys x σ H N)
 (hd : ∀ σ ys H, Pv xs.length σ ys H → Q (.ref p) H) : zcw (Itv xs) p js g tc te σ H Q :=
 zdT (n := xs.length) (J := Itv xs) (js := js) (σ := σ) (H := H) (p := p) (Q := Q) (g := g) (tc := tc) (te := te) Pv h0 hl
  (fun i σ ys H hi pv => hi) (fun σ ys H pv => Nat.le_refl _)
  (fun i x σ ys H H' N hi y pv hN => by
   obtain ⟨e, y⟩ := y
   subst e
   exact hs i x σ ys _ N y pv hN) hd
section
variable {prog : Program} {w : World} {A : Around} {E : Value → Shared → Prop} {R : Result → Shared → Prop} {s : Shared}
theorem zc7 {kx vx target iter : Expr} {ifs : List Expr} {scope : Scope} {pos : Pos} {it : Value} {D : Addr} {env : Env} (I : Nat → Shared → Prop)
 (turn : ∀ n s, I n s → wpAny (model prog w) A (pyNext it) (fun r s₁ => match r with
  | none => R (.ok .next) s₁
  | some v => wpAny (model prog w) A (letOwnedTupleGo target it v) (fun _ s₁' => wpAny (model prog w) A (assign target env v) (fun _ s₂ =>
   wpAny (model prog w) A (forIn ifs true fun c r => if r = true then do let ok ← isTrue c env (eval c env); pure (ForInStep.yield ok) else pure (ForInStep.yield r)) (fun ok s₃ =>
    if ok = true then wpAny (model prog w) A (eval kx env) (fun kv s₄ => wpAny (model prog w) A (eval vx env) (fun vv s₅ =>
     wpAny (model prog w) A (dictSet D kv vv) (fun _ s₆ => ∃ m, m < n ∧ I m s₆) (fun _ _ => False) s₅) (fun _ _ => False) s₄) (fun _ _ => False) s₃
    else ∃ m, m < n ∧ I m s₃) (fun _ _ => False) s₂) (fun _ _ => False) s₁') (fun _ _ => False) s₁) (fun _ _ => False) s)
 (n : Nat) (h : I n s) :
 codeAny (model prog w) A (.compLoop (.DictComp kx vx [⟨target, iter, ifs, 0⟩] scope pos) 0 it (.ref D) env) R s := by
 refine codeAny_loop rfl I (fun n s hI => ?_) n h
 show wpAny _ A ((compTurn (.DictComp kx vx [⟨target, iter, ifs, 0⟩] scope pos) 0 it (.ref D) env).onRaise (fun x => do noteFrame x env; theTreesLotGoes x)) _ _ s
 refine wpAny_noted ?_
 rw [compTurn_dict]
 refine wpAny_bind (wpAny_standAt (wpAny_bind (wpAny_mono (turn n s hI) (fun r s₁ h₁ => ?_) fun _ _ z => z.elim)))
 cases r with
 | none => exact wpAny_pure h₁
 | some v =>
  refine wpAny_bind (wpAny_mono h₁ (fun _ s₁' h₁' => ?_) fun _ _ z => z.elim)
  refine wpAny_bind (wpAny_mono h₁' (fun _ s₂ h₂ => wpAny_bind (wpAny_mono h₂ (fun ok s₃ h₃ => ?_) fun _ _ z => z.elim)) fun _ _ z => z.elim)
  cases ok with
  | false => exact wpAny_pure ⟨rfl, h₃⟩
  | true =>
   exact wpAny_bind (wpAny_bind (wpAny_mono h₃ (fun kv s₄ h₄ => wpAny_bind (wpAny_holding (wpAny_mono h₄ (fun vv s₅ h₅ => wpAny_bind (wpAny_standAt (wpAny_holding (wpAny_mono h₅ (fun _ s₆ h₆ => wpAny_pure ⟨rfl, h₆⟩) fun _ _ z => z.elim)))) fun _ _ z => z.elim)) ) fun _ _ z => z.elim))
end
def zig (J : It) (p : Addr) (js : Cap) (g : TG) (tc : TT) (tk tv : TE) (σ : St) (H : Hp) (Q : VK) : Prop :=
 ∃ W : Nat → Nat → St → List (Key × V) → Hp → Prop, (∃ m, W 0 m (inn js σ) [] (upd H p (.dK []))) ∧ ∀ i m σ' kvs H, W i m σ' kvs H → H p = some (.dK kvs) ∧
  ((J.stop i H ∧ Q (.ref p) H) ∨ (J.go i H ∧ kvs.length < sizeLine ∧ ∀ x H', J.yld i H x H' → g x σ' H' fun σ2 H2 => tc σ2 H2 fun b H3 =>
    if b = true then tk σ2 H3 fun k H4 => tv σ2 H4 fun y H5 => ∃ ky, k = kV ky ∧ H5 p = some (.dK kvs) ∧ ∃ m', m' < m ∧ W (i + 1) m' σ2 (putK kvs ky y) (upd H5 p (.dK (putK kvs ky y)))
    else ∃ m', m' < m ∧ W (i + 1) m' σ2 kvs H3))
def tDC (wi : TI) (js : Cap) (g : TG) (tc : TT) (tk tv : TE) : TE := fun σ H Q => wi σ H fun J H1 => ∀ p, H1 p = none → zig J p js g tc tk tv σ H1 Q
section
variable {X : Cx} {tg iter kx vx : Expr} {ifs : List Expr} {wi : TI} {js : Cap} {g : TG} {tc : TT} {tk tv : TE} {N' : List Str} {scope : Scope} {pos : Pos}
theorem zi3 {pins : List (Addr × Obj)} {σ : St} {H : Hp} {s : Shared} {E : Value → Shared → Prop} {Q : VK} {J : It} {it : Addr} {fp : List Addr} {tn : Nat → Heap → Prop} {cl : List (Str × Addr)}
 (hc : X.calm = true) (ok : CapOk X N' js scope)
 (h2 : ∀ x c, cl.lookup x = some c → X.env.cells.lookup x = some c) (h3 : ∀ p ∈ scope.names, p.2 = .free → (cl.lookup p.1).isSome = true)
 (hg : ∀ cl C s₀ H₀ ex, PG (lcx X N' scope cl C s₀ H₀ ex) tg g) (ht : ∀ cl C s₀ H₀ ex, PIfs (lcx X N' scope cl C s₀ H₀ ex) ifs tc) (he : ∀ cl C s₀ H₀ ex, PE (lcx X N' scope cl C s₀ H₀ ex) kx tk) (hv : ∀ cl C s₀ H₀ ex, PE (lcx X N' scope cl C s₀ H₀ ex) vx tv)
 (I : Inv X pins σ H s) (T : Turn X.prog X.w X.K tg J fp it tn) (st : tn 0 s.heap) (hf : ∀ b ∈ fp, FpOk X pins H b)
 (hw : ∀ p, H p = none → zig J p js g tc tk tv σ H Q) :
 wpAny (model X.prog X.w) X.A newDict (fun acc s₃ => wpAny (model X.prog X.w) X.A (newFunctionEnv scope X.env.globals cl [] X.env.qual none .none (some X.env)) (fun cenv s₄ =>
  codeAny (model X.prog X.w) X.A (.compStart (.DictComp kx vx [⟨tg, iter, ifs, 0⟩] scope pos) 0 (.ref it) acc { cenv with scope := relabel scope X.env })
   (fun r s' => r = .ok .next ∧ (∃ m, s'.heap.Ns cenv.locals m) ∧ ∃ v H', RelV v acc ∧ Inv X pins σ H' s' ∧ FpOk X pins H' cenv.locals ∧ Q v H') s₄) E s₃) E s := by
 have objs := T.obj _ _ st
 refine wpAny_newObj_type ?_
 obtain ⟨W, ⟨m0, w0⟩, turn⟩ := hw s.heap.objs.size (I.hok.fresh (Nat.le_refl _))
 generalize hp : s.heap.objs.size = p at *
 have kp : ∀ b u, s.heap.get? b = some u → (s.heap.push { cls := .type "dict", data := .dict #[] }).get? b = some u := fun b u e => Heap.get?_push_of_some _ e
 have I3 : Inv X pins σ (upd H p (.dK [])) { s with heap := s.heap.push { cls := .type "dict", data := .dict #[] } } := by
  subst hp
  exact I.laid (t' := s.toks) kp (Nat.le_refl _) (ziW s.heap I.big)
 have fne : ∀ b ∈ fp, b ≠ p := fun b hb => by
  obtain ⟨o, e, _⟩ := objs b hb
  have := Heap.lt_size e
  rw [← hp]
  exact Nat.ne_of_lt this
 have hf3 : ∀ b ∈ fp, FpOk X pins (upd H p (.dK [])) b := fun b hb => ⟨by rw [zak (fne b hb)]; exact (hf b hb).1, (hf b hb).2⟩
 have st3 : tn 0 (s.heap.push { cls := .type "dict", data := .dict #[] }) := T.keep _ _ _ st fun b _ o e => kp b o e
 have lt3 : ∀ b ∈ fp, b < (s.heap.push { cls := .type "dict", data := .dict #[] }).objs.size := fun b hb => by
  obtain ⟨o, e, _⟩ := objs b hb
  exact Heap.lt_size (kp b o e)
 generalize hs3 : ({ s with heap := s.heap.push { cls := .type "dict", data := .dict #[] } } : Shared) = s3 at *
 have eh : s.heap.push { cls := .type "dict", data := .dict #[] } = s3.heap := by rw [← hs3]
 rw [eh] at st3 lt3
 refine zbO ok.cells fun cl h₁ hns₁ k4 oc => ?_
 have I4 := zdG (cl := cl) (h₁ := h₁) (t' := s3.toks + ([] : List (Str × Value)).length) ok I3 h2 h3 hf3 lt3 k4 hns₁ oc
 have st4 : tn 0 h₁ := T.keep _ _ _ st3 fun b _ o e => k4 b o e
 generalize hX : lcx X N' scope cl s3.heap.objs.size s3 (upd H p (.dK [])) fp = X' at I4
 have hg' : PG X' tg g := by rw [← hX]; exact hg _ _ _ _ _
 have ht' : PIfs X' ifs tc := by rw [← hX]; exact ht _ _ _ _ _
 have he' : PE X' kx tk := by rw [← hX]; exact he _ _ _ _ _
 have hv' : PE X' vx tv := by rw [← hX]; exact hv _ _ _ _ _
 have eP : X'.prog = X.prog := by rw [← hX]; rfl
 have ew : X'.w = X.w := by rw [← hX]; rfl
 have eK : X'.K = X.K := by rw [← hX]; rfl
 have ec : X'.calm = true := by rw [← hX]; exact hc
 have eA : X'.A = X.A := by rw [← hX]; rfl
 have ex : X'.xe = fun _ _ => False := by rw [← hX]; rfl
 have eE : X'.env = compEnvC scope cl s3.heap.objs.size X.env := by rw [← hX]; rfl
 have eEx : X'.ex = fp := by rw [← hX]; rfl
 have eN : X'.pn = [] := by rw [← hX]; rfl
 have stat : ∀ {H' : Hp}, (∀ b ∈ fp, H' b = none) → ∀ b ∈ fp, FpOk X' [] H' b := fun {H'} hn b hb => by
  have okc := I4.ok
  refine ⟨hn b hb, (okc.exf b (by rw [eEx]; exact hb)).1, okc.exfs b (by rw [eEx]; exact hb), .inl (by rw [eEx]; exact hb), (okc.exf b (by rw [eEx]; exact hb)).2, fun q hq => ?_⟩
  rw [eN] at hq
  cases hq
 have loop : ∀ s₄ : Shared, s₄ = { s3 with heap := h₁, toks := s3.toks + ([] : List (Str × Value)).length } →
  codeAny (model X.prog X.w) X.A (.compLoop (.DictComp kx vx [⟨tg, iter, ifs, 0⟩] scope pos) 0 (.ref it) (.ref p) (compEnvC scope cl s3.heap.objs.size X.env))
   (fun r s' => r = .ok .next ∧ (∃ m, s'.heap.Ns s3.heap.objs.size m) ∧ ∃ v H', RelV v (.ref p) ∧ Inv X pins σ H' s' ∧ FpOk X pins H' s3.heap.objs.size ∧ Q v H') s₄ := by
  rintro s₄ rfl
  refine zc7 (fun n s' => ∃ i σ' ys H', Inv X' [] σ' H' s' ∧ tn i s'.heap ∧ (∀ b ∈ fp, H' b = none) ∧ W i n σ' ys H') ?_ m0 ⟨0, _, [], _, I4, st4, fun b hb => (hf3 b hb).1, w0⟩
  rintro n s5 ⟨i, σ5, ys, H5, I5, st5, fr5, w5⟩
  obtain ⟨hp5, tu⟩ := turn i n σ5 ys H5 w5
  rcases tu with ⟨stop, qn⟩ | ⟨go, hz, step⟩
  · have D := T.done X' eP ew eK ec i [] s5 σ5 H5 (fun _ _ => False) I5 (stat fr5) st5 stop
    rw [eA] at D
    refine thn D fun r s6 ⟨hr, I6⟩ => ?_
    subst hr
    refine ⟨rfl, ?_, .ref p, H5, rfl, ?_, ?_, qn⟩
    · obtain ⟨m, hm, _⟩ := I6.loc
      rw [eE] at hm
      exact ⟨m, hm⟩
    · have b6 := I6.base
      have ho := I6.os
      have hk := I6.hok
      have hb := I6.bare
      subst hX
      exact I3.call' (ch := fp) ho b6 hk hb fun b hb' => ⟨(hf b hb').2.2.2.1, (hf b hb').2.1, (hf b hb').2.2.2.2.1, (hf b hb').2.2.2.2.2⟩
    · have fr := I6.free
      rw [eE] at fr
      exact I3.fpOk (Nat.le_refl _) fr
  · have D := T.item X' eP ew eK ec i [] s5 σ5 H5 (fun _ _ => False) I5 (stat fr5) st5 go
    rw [eA] at D
    refine thn D fun r s6 ⟨u, hr, h6⟩ => ?_
    subst hr
    refine thn h6 fun _ s7 ⟨x, H7, I7, r7, y7, st7, fr7⟩ => ?_
    have I7' := I7.pinned (stat fr7) (T.obj _ _ st7)
    have G := hg' _ s7 σ5 H7 x u _ I7' r7 (step x H7 y7)
    rw [eP, ew, eA, ex, eE] at G
    refine thn G fun _ s8 ⟨σ8, H8, I8, q8⟩ => ?_
    have Tt := ht' _ s8 σ8 H8 _ I8 q8
    rw [eP, ew, eA, ex, eE] at Tt
    refine thn Tt fun b s9 ⟨H9, I9, q9⟩ => ?_
    have again : ∀ {s' : Shared} {ys' : List (Key × V)} {H' : Hp}, Inv X' ([] ++ zdv fp s7.heap) σ8 H' s' → (∃ m', m' < n ∧ W (i + 1) m' σ8 ys' H') →
     ∃ m, m < n ∧ ∃ i σ' ys H', Inv X' [] σ' H' s' ∧ tn i s'.heap ∧ (∀ b ∈ fp, H' b = none) ∧ W i m σ' ys H' := fun {s' ys' H'} I' ⟨m', hm, w'⟩ => by
     refine ⟨m', hm, i + 1, σ8, ys', H', I'.unpinned, T.keep _ _ _ st7 fun b hb o e => (I'.pin (b, o) (List.mem_append_right _ (List.mem_append_right _ (za2 hb e)))).1, fun b hb => ?_, w'⟩
     obtain ⟨o, e, d⟩ := T.obj _ _ st7 b hb
     exact (I'.pin (b, o) (List.mem_append_right _ (List.mem_append_right _ (za2 hb e)))).2.1
    cases b with
    | false => exact again I9 q9
    | true =>
     have Ee := he' _ s9 σ8 H9 _ I9 q9
     rw [eP, ew, eA, ex, eE] at Ee
     show wpAny _ _ _ _ _ _
     refine thn Ee fun kv s10 ⟨kk, H10, I10, r10, q10⟩ => ?_
     have Ev := hv' _ s10 σ8 H10 _ I10 q10
     rw [eP, ew, eA, ex, eE] at Ev
     refine thn Ev fun vv s11 ⟨y, H11, I11, r11, ky, ek, hp11, q11⟩ => ?_
     subst ek
     obtain ⟨z0, hd0, vs0, rel0, dd0⟩ := zeu I11.hok hp11
     have hz0 : vs0.length ≤ sizeLine := by rw [← rel0.length]; exact z0
     have hl0 : (putK ys ky y).length ≤ sizeLine := by have := zdF ys ky y; omega
     rw [eP, ew] at dd0
     refine wpAny_dictSet_pairs (hsz := hz0) (ziP r10) dd0 fun h' dd' hs' => ?_
     have he0 : ∃ q, h'.get? p = some q := let ⟨q, _, _, hq, _⟩ := dd'; ⟨q, hq⟩
     have I12 := zh4 (t' := s11.toks + 1) I11 (by rw [hp11]; exact True.intro) hs' he0 (zkR hl0 hd0 (rel0.put ky r11) (by rw [eP, ew]; exact dd'))
     exact again I12 q11
 exact codeAny_compStart_dict (loop _ rfl) (T.self _ 0 _ _ _ st4 (loop _ rfl))
theorem zlb (hc : X.calm = true) (ok : CapOk X N' js scope) (hi : PI X tg iter wi)
 (hg : ∀ cl C s₀ H₀ ex, PG (lcx X N' scope cl C s₀ H₀ ex) tg g) (ht : ∀ cl C s₀ H₀ ex, PIfs (lcx X N' scope cl C s₀ H₀ ex) ifs tc) (he : ∀ cl C s₀ H₀ ex, PE (lcx X N' scope cl C s₀ H₀ ex) kx tk) (hv : ∀ cl C s₀ H₀ ex, PE (lcx X N' scope cl C s₀ H₀ ex) vx tv)
 (hs : ∀ x, foldedSetIterable iter X.env x = pure x := by intro _; rfl) : PE X (.DictComp kx vx [⟨tg, iter, ifs, 0⟩] scope pos) (tDC wi js g tc tk tv) := by
 intro pins s σ H Q I h
 obtain ⟨cl, c1, c2, c3⟩ := zew (scope := scope) I.ok.has ok.free
 show wpAny _ X.A (comprehension (.DictComp kx vx [⟨tg, iter, ifs, 0⟩] scope pos) scope X.env _ newDict false (eval iter X.env)) _ _ s
 refine wpAny_comprehension_free (use := none) rfl hs c1 ok.kind ok.names (thn (hi pins s σ H _ I h) fun v s1 h1 => thn h1 fun itv s2 h2 => ?_)
 obtain ⟨it, fp, tn, J, H2, e, I2, T, st2, f2, hw⟩ := h2
 subst e
 refine wpAny_mono (zi3 (iter := iter) (pos := pos) hc ok c2 c3 hg ht he hv I2 T st2 f2 hw) (fun acc s3 h3 => wpAny_mono h3 (fun cenv s4 h4 => ?_) fun _ _ z => z) fun _ _ z => z
 refine codeAny_mono h4 fun r s5 h5 => ?_
 obtain ⟨rfl, ⟨m, hm⟩, v, H5, rv, I5, f5, q5⟩ := h5
 refine ⟨m, hm, fun h' sb => ?_⟩
 obtain ⟨f0, f1, _, f3, f4, f6⟩ := f5
 exact ⟨v, H5, I5.turned (t' := s5.toks) (fun b o hb e => (sb.2 b hb).trans e) f0 f1 f3 f4 f6, rv, q5⟩
end
section
variable {prog : Program} {w : World} {A : Around} {E : Value → Shared → Prop} {s : Shared}
theorem zfI {ti tp : Addr} {k : Nat} {vs : Array Value} {v : Value} {Q : Value → Shared → Prop} (hi : s.heap.IsTupleIter ti tp k) (ht : s.heap.IsTuple tp vs) (hv : vs[k]? = some v)
 (fin : ∀ g, g.IsTupleIter ti tp (k + 1) → Heap.SameBut ti s.heap g → Q v { s with heap := g }) : wpAny (model prog w) A (Builtin.SmallTypes.nextOf (.ref ti)) Q E s := by
 obtain ⟨oi, e1, c1, d1⟩ := id hi
 obtain ⟨ot, e2, _, nt, d2⟩ := ht
 unfold Builtin.SmallTypes.nextOf
 refine wpAny_bind (wpAny_callSpecial?_slot (name := Str.ofString "__next__") hi.typeIs PySem.F.slot_tuple_iterator_next (wpAny_call_entry PySem.F.slot_tuple_iterator_next hi.typeIs PySem.F.entry_tuple_iterator_next ?_ (PySem.F.args_tuple_iterator_next_1 _)))
 show wpAny _ _ (field (.ref ti) 0 >>= _) _ _ s
 refine wpAny_bind (wpAny_field e1 d1 (x := .ref tp) rfl ?_)
 show wpAny _ _ (if (Value.ref tp == Value.none) = true then _ else _) _ _ s
 rw [if_neg (show ¬ ((Value.ref tp == Value.none) = true) from Bool.false_ne_true)]
 show wpAny _ _ (field (.ref ti) 1 >>= _) _ _ s
 refine wpAny_bind (wpAny_field e1 d1 (x := .int k 0) rfl ?_)
 show wpAny _ _ (seqItems? (.ref tp) >>= _) _ _ s
 refine wpAny_bind (wpAny_seqItems e2 d2 ?_)
 simp only [Int.toNat_natCast, hv]
 refine wpAny_bind (wpAny_setField e1 d1 (by simp) (wpAny_pure ⟨v, rfl, wpAny_pure (fin _ ?_ (Heap.SameBut.update ..))⟩))
 exact ⟨_, Heap.get?_update_self _ e1 (Obj.isFreed_of_fields (Obj.data_mapFields d1 _)), (Obj.cls_mapFields ..).trans c1, by rw [Obj.data_mapFields d1]; simp [rawInt]⟩
theorem zjc {ti tp : Addr} {k : Nat} {vs : Array Value} {Q : Value → Shared → Prop} (hh : A.handled = none) (hi : s.heap.IsTupleIter ti tp k) (ht : s.heap.IsTuple tp vs) (hv : vs[k]? = none)
 (fin : ∀ g e, Heap.ExtBut ti s.heap g → (∃ o, g.get? e = some o ∧ o.cls = .type "StopIteration") → E (.ref e) { s with heap := g }) : wpAny (model prog w) A (Builtin.SmallTypes.nextOf (.ref ti)) Q E s := by
 obtain ⟨oi, e1, c1, d1⟩ := id hi
 obtain ⟨ot, e2, _, nt, d2⟩ := ht
 unfold Builtin.SmallTypes.nextOf
 refine wpAny_bind (wpAny_callSpecial?_slot (name := Str.ofString "__next__") hi.typeIs PySem.F.slot_tuple_iterator_next (wpAny_call_entry PySem.F.slot_tuple_iterator_next hi.typeIs PySem.F.entry_tuple_iterator_next ?_ (PySem.F.args_tuple_iterator_next_1 _)))
 show wpAny _ _ (field (.ref ti) 0 >>= _) _ _ s
 refine wpAny_bind (wpAny_field e1 d1 (x := .ref tp) rfl ?_)
 show wpAny _ _ (if (Value.ref tp == Value.none) = true then _ else _) _ _ s
 rw [if_neg (show ¬ ((Value.ref tp == Value.none) = true) from Bool.false_ne_true)]
 show wpAny _ _ (field (.ref ti) 1 >>= _) _ _ s
 refine wpAny_bind (wpAny_field e1 d1 (x := .int k 0) rfl ?_)
 show wpAny _ _ (seqItems? (.ref tp) >>= _) _ _ s
 refine wpAny_bind (wpAny_seqItems e2 d2 ?_)
 simp only [Int.toNat_natCast, hv]
 refine wpAny_bind (wpAny_rule (wpAny_bind (wpAny_setField e1 d1 (by simp) ?_)))
 show wpAny _ _ (newExc (.type "StopIteration") [] >>= _) _ _ _
 refine wpAny_bind ?_
 simp only [newExc, newTuple]
 refine wpAny_bind (wpAny_newObj_type ?_ (by size_fits))
 refine wpAny_bind (m := firstArgMember _ _) (wpAny_of_eq (a := Value.none) (by first | rfl | (simp only [firstArgMember]; rfl)) ?_)
 refine wpAny_newObj_type ?_ (by size_fits)
 simp only [raiseNew]
 refine wpAny_bind (wpAny_handled ?_)
 first | rw [show A.in1.handled = none from hh] | rw [hh]
 refine wpAny_bind (wpAny_pure (wpAny_throw ?_))
 exact fin _ _ (((Heap.SameBut.update ..).extBut.push _).push _) ⟨_, Heap.get?_push_size _ rfl, rfl⟩
structure ZA (z a b i j : Addr) : Prop where
 az : a ≠ z
 bz : b ≠ z
 iz : i ≠ z
 jz : j ≠ z
 ab : a ≠ b
 ai : a ≠ i
 aj : a ≠ j
 bi : b ≠ i
 bj : b ≠ j
 ij : i ≠ j
theorem zbP {h h' : Heap} {t c : Addr} {vs : Array Value} (x : h.IsTuple t vs) (hs : Heap.SameBut c h h') (n : t ≠ c) : h'.IsTuple t vs := x.extBut hs.extBut n
theorem zjn {z a b i j t1 t2 : Addr} {k1 k2 : Nat} {xs ys : Array Value} {x y p q : Value} {Q : Value → Shared → Prop} (D : ZA z a b i j) (n1 : t1 ≠ z ∧ t1 ≠ b ∧ t1 ≠ i ∧ t1 ≠ j) (n2 : t2 ≠ z ∧ t2 ≠ b ∧ t2 ≠ i ∧ t2 ≠ j)
 (hz : IsZip s.heap z a b .none) (ha : IsPair s.heap a (.ref i) (.ref j)) (hb : IsPair s.heap b p q) (h1 : s.heap.IsTupleIter i t1 k1) (h2 : s.heap.IsTupleIter j t2 k2) (g1 : s.heap.IsTuple t1 xs) (g2 : s.heap.IsTuple t2 ys) (hx : xs[k1]? = some x) (hy : ys[k2]? = some y)
 (fin : ∀ g, IsZip g z a b (rawInt s.heap.objs.size) → IsPair g b x y → g.IsTupleIter i t1 (k1 + 1) → g.IsTupleIter j t2 (k2 + 1) → IsPair g s.heap.objs.size x y →
  (∀ c o, c ≠ z → c ≠ b → c ≠ i → c ≠ j → s.heap.get? c = some o → g.get? c = some o) → Q (.ref s.heap.objs.size) { s with heap := g }) :
 wpAny (model prog w) A (Builtin.«zip.__next__» ⟨[.ref z], []⟩) (fun r s' => ∃ v, r = .done (.ret v) ∧ Q v s') E s := by
 show wpAny _ _ (field (.ref z) 2 >>= _) _ _ _
 refine wpAny_bind (wpAny_field hz rfl (x := .bool false) rfl ?_)
 show wpAny _ _ (field (.ref z) 3 >>= _) _ _ _
 refine wpAny_bind (wpAny_field hz rfl (x := .ref a) rfl ?_)
 refine wpAny_bind (wpAny_seqItems ha rfl ?_)
 show wpAny _ _ (Builtin.SmallTypes.ownedTupleIsFree (.ref z) >>= _) _ _ _
 refine wpAny_bind ?_
 unfold Builtin.SmallTypes.ownedTupleIsFree
 refine wpAny_bind (wpAny_field hz rfl (x := .none) rfl (wpAny_pure ?_))
 simp only [if_true]
 refine wpAny_bind (wpAny_rule ?_)
 refine wpAny_bind (wpAny_field hz rfl (x := .ref b) rfl ?_)
 refine wpAny_bind (wpAny_setField_rec hz (by simp) fun w1 z1 m1 => ?_)
 replace z1 : IsZip w1 z a b .ellipsis := z1
 refine wpAny_bind ?_
 simp only [List.zipIdx_cons, List.zipIdx_nil, List.forIn_cons, List.forIn_nil]
 refine wpAny_bind (wpAny_bind (wpAny_onRaise ?_))
 show wpAny _ _ (Builtin.SmallTypes.nextOf (.ref i) >>= _) _ _ _
 refine wpAny_bind (zfI (h1.extBut m1.extBut D.iz) (zbP g1 m1 n1.1) hx fun w2 i2 m2 => wpAny_pure ?_)
 have b2 : IsPair w2 b p q := m2.extBut _ _ D.bi (m1.extBut _ _ D.bz hb)
 refine wpAny_bind (wpAny_seqItems b2 rfl ?_)
 refine wpAny_bind (wpAny_updateSeq_pair b2 fun w3 b3 m3 => ?_)
 replace b3 : IsPair w3 b x q := b3
 refine wpAny_bind (wpAny_letGo (wpAny_pure ?_))
 refine wpAny_bind (wpAny_bind (wpAny_onRaise ?_))
 show wpAny _ _ (Builtin.SmallTypes.nextOf (.ref j) >>= _) _ _ _
 refine wpAny_bind (zfI (((h2.extBut m1.extBut D.jz).extBut m2.extBut D.ij.symm).extBut m3.extBut D.bj.symm) (zbP (zbP (zbP g2 m1 n2.1) m2 n2.2.2.1) m3 n2.2.1) hy fun w4 j4 m4 => wpAny_pure ?_)
 have b4 : IsPair w4 b x q := m4.extBut _ _ D.bj b3
 refine wpAny_bind (wpAny_seqItems b4 rfl ?_)
 refine wpAny_bind (wpAny_updateSeq_pair b4 fun w5 b5 m5 => ?_)
 replace b5 : IsPair w5 b x y := b5
 refine wpAny_bind (wpAny_letGo (wpAny_pure (wpAny_pure ?_)))
 refine wpAny_bind (wpAny_seqItems b5 rfl ?_)
 refine wpAny_bind (wpAny_newTuple ?_)
 have sz : w5.objs.size = s.heap.objs.size := by rw [m5.1, m4.1, m3.1, m2.1, m1.1]
 have z5 : IsZip w5 z a b .ellipsis := m5.extBut _ _ D.bz.symm (m4.extBut _ _ D.jz.symm (m3.extBut _ _ D.bz.symm (m2.extBut _ _ D.iz.symm z1)))
 have k5 : ∀ c o, c ≠ z → c ≠ b → c ≠ i → c ≠ j → s.heap.get? c = some o → w5.get? c = some o := fun c o c1 c2 c3 c4 e =>
  m5.extBut _ _ c2 (m4.extBut _ _ c4 (m3.extBut _ _ c2 (m2.extBut _ _ c3 (m1.extBut _ _ c1 e))))
 have i5 : w5.IsTupleIter i t1 (k1 + 1) := ((i2.extBut m3.extBut D.bi.symm).extBut m4.extBut D.ij).extBut m5.extBut D.bi.symm
 have j5 : w5.IsTupleIter j t2 (k2 + 1) := j4.extBut m5.extBut D.bj.symm
 have zlt : z < w5.objs.size := Heap.lt_size z5
 show wpAny _ _ (Builtin.SmallTypes.ownedTupleHandOut (.ref z) (.ref w5.objs.size) >>= _) _ _ _
 refine wpAny_bind ?_
 unfold Builtin.SmallTypes.ownedTupleHandOut
 have z6 : IsZip (w5.push { cls := .type "tuple", data := .seq #[x, y] }) z a b .ellipsis := Heap.get?_push_of_some _ z5
 refine wpAny_bind (wpAny_setField_rec z6 (by simp) fun w7 z7 m7 => ?_)
 replace z7 : IsZip w7 z a b (rawInt w5.objs.size) := z7
 refine wpAny_setField_rec z7 (by simp) fun w8 z8 m8 => ?_
 replace z8 : IsZip w8 z a b (rawInt w5.objs.size) := z8
 have up : ∀ c o, c ≠ z → w5.get? c = some o → w8.get? c = some o := fun c o c1 e => m8.extBut _ _ c1 (m7.extBut _ _ c1 (Heap.get?_push_of_some _ e))
 have t8 : IsPair w8 w5.objs.size x y := m8.extBut _ _ (Nat.ne_of_gt zlt) (m7.extBut _ _ (Nat.ne_of_gt zlt) (Heap.get?_push_size _ rfl))
 rw [sz] at z8 t8
 refine wpAny_pure ⟨_, rfl, ?_⟩
 show Q (.ref w5.objs.size) _
 rw [sz]
 obtain ⟨oi, ei, ri⟩ := i5
 obtain ⟨oj, ej, rj⟩ := j5
 exact fin w8 z8 (up _ _ D.bz b5) ⟨oi, up _ oi D.iz ei, ri⟩ ⟨oj, up _ oj D.jz ej, rj⟩ t8 fun c o c1 c2 c3 c4 e => up c o c1 (k5 c o c1 c2 c3 c4 e)
theorem zj7 {z a b i j t1 t2 : Addr} {k1 k2 : Nat} {xs ys : Array Value} {p q : Value} {Q : Fin → Shared → Prop} (hh : A.handled = none) (D : ZA z a b i j) (n1 : t1 ≠ z ∧ t1 ≠ b ∧ t1 ≠ i ∧ t1 ≠ j) (n2 : t2 ≠ z ∧ t2 ≠ b ∧ t2 ≠ i ∧ t2 ≠ j)
 (hz : IsZip s.heap z a b .none) (ha : IsPair s.heap a (.ref i) (.ref j)) (hb : IsPair s.heap b p q) (h1 : s.heap.IsTupleIter i t1 k1) (h2 : s.heap.IsTupleIter j t2 k2) (g1 : s.heap.IsTuple t1 xs) (g2 : s.heap.IsTuple t2 ys) (hend : xs[k1]? = none ∨ ys[k2]? = none)
 (fin : ∀ g e, (∀ c o, c ≠ z → c ≠ b → c ≠ i → c ≠ j → s.heap.get? c = some o → g.get? c = some o) → (∃ o, g.get? e = some o ∧ o.cls = .type "StopIteration") → E (.ref e) { s with heap := g }) :
 wpAny (model prog w) A (Builtin.«zip.__next__» ⟨[.ref z], []⟩) Q E s := by
 show wpAny _ _ (field (.ref z) 2 >>= _) _ _ _
 refine wpAny_bind (wpAny_field hz rfl (x := .bool false) rfl ?_)
 show wpAny _ _ (field (.ref z) 3 >>= _) _ _ _
 refine wpAny_bind (wpAny_field hz rfl (x := .ref a) rfl ?_)
 refine wpAny_bind (wpAny_seqItems ha rfl ?_)
 show wpAny _ _ (Builtin.SmallTypes.ownedTupleIsFree (.ref z) >>= _) _ _ _
 refine wpAny_bind ?_
 unfold Builtin.SmallTypes.ownedTupleIsFree
 refine wpAny_bind (wpAny_field hz rfl (x := .none) rfl (wpAny_pure ?_))
 simp only [if_true]
 refine wpAny_bind (wpAny_rule ?_)
 refine wpAny_bind (wpAny_field hz rfl (x := .ref b) rfl ?_)
 refine wpAny_bind (wpAny_setField_rec hz (by simp) fun w1 z1 m1 => ?_)
 replace z1 : IsZip w1 z a b .ellipsis := z1
 refine wpAny_bind ?_
 simp only [List.zipIdx_cons, List.zipIdx_nil, List.forIn_cons, List.forIn_nil]
 refine wpAny_bind (wpAny_bind (wpAny_onRaise ?_))
 show wpAny _ _ (Builtin.SmallTypes.nextOf (.ref i) >>= _) _ _ _
 cases hx : xs[k1]? with
 | none =>
  refine wpAny_bind (zjc hh (h1.extBut m1.extBut D.iz) (zbP g1 m1 n1.1) hx fun w2 e m2 he => ?_)
  obtain ⟨oe, e1, e2⟩ := he
  have z2 : IsZip w2 z a b .ellipsis := m2 _ _ D.iz.symm z1
  have ez : e ≠ z := fun u => by subst u; rw [z2] at e1; cases e1; simp at e2
  exact wpAny_setField_rec z2 (by simp) fun w3 _ m3 => fin w3 e (fun c o c1 _ c3 _ u => m3.extBut _ _ c1 (m2 _ _ c3 (m1.extBut _ _ c1 u))) ⟨oe, m3.extBut _ _ ez e1, e2⟩
 | some x =>
  have hy : ys[k2]? = none := by
   rcases hend with u | u
   · rw [hx] at u; cases u
   · exact u
  refine wpAny_bind (zfI (h1.extBut m1.extBut D.iz) (zbP g1 m1 n1.1) hx fun w2 i2 m2 => wpAny_pure ?_)
  have b2 : IsPair w2 b p q := m2.extBut _ _ D.bi (m1.extBut _ _ D.bz hb)
  refine wpAny_bind (wpAny_seqItems b2 rfl ?_)
  refine wpAny_bind (wpAny_updateSeq_pair b2 fun w3 b3 m3 => ?_)
  refine wpAny_bind (wpAny_letGo (wpAny_pure ?_))
  refine wpAny_bind (wpAny_bind (wpAny_onRaise ?_))
  show wpAny _ _ (Builtin.SmallTypes.nextOf (.ref j) >>= _) _ _ _
  refine wpAny_bind (zjc hh (((h2.extBut m1.extBut D.jz).extBut m2.extBut D.ij.symm).extBut m3.extBut D.bj.symm) (zbP (zbP (zbP g2 m1 n2.1) m2 n2.2.2.1) m3 n2.2.1) hy fun w4 e m4 he => ?_)
  obtain ⟨oe, e1, e2⟩ := he
  have z4 : IsZip w4 z a b .ellipsis := m4 _ _ D.jz.symm (m3.extBut _ _ D.bz.symm (m2.extBut _ _ D.iz.symm z1))
  have ez : e ≠ z := fun u => by subst u; rw [z4] at e1; cases e1; simp at e2
  exact wpAny_setField_rec z4 (by simp) fun w5 _ m5 => fin w5 e (fun c o c1 c2 c3 c4 u => m5.extBut _ _ c1 (m4 _ _ c4 (m3.extBut _ _ c2 (m2.extBut _ _ c3 (m1.extBut _ _ c1 u))))) ⟨oe, m5.extBut _ _ ez e1, e2⟩
end
section
variable {X : Cx} {pins : List (Addr × Obj)} {σ : St} {H : Hp} {s : Shared} {h' : Heap}
theorem Inv.newTup {T : Addr} {x y : V} {t' : Nat} (I : Inv X pins σ H s) (ch : List Addr) (hch : ∀ c ∈ ch, FpOk X pins H c) (keep : ∀ c o, c ∉ ch → s.heap.get? c = some o → h'.get? c = some o) (hT : s.heap.objs.size ≤ T)
 (tup : ∃ its : List Value, Vals [x, y] its ∧ IsTupP h' T its.toArray) : Inv X pins σ (upd H T (.tup [x, y])) { s with heap := h', toks := t' } := by
 have hn : H T = none := I.hok.fresh hT
 have neT : ∀ c o, s.heap.get? c = some o → c ≠ T := fun c o e => Nat.ne_of_lt (Nat.lt_of_lt_of_le (Heap.lt_size e) hT)
 have off : ∀ c u, H c = some u → c ∉ ch := fun c u e z => by rw [(hch c z).1] at e; cases e
 refine I.step (g' := s.gens) (d' := s.drawn) (ch := ch) (fun c hc => ⟨(hch c hc).2.2.2.1, (hch c hc).2.1, (hch c hc).2.2.2.2.1, (hch c hc).2.2.2.2.2⟩) (fun c o _ _ hc e _ => keep c o hc e) (fun c o _ _ hc e _ => ⟨o.slots, keep c o hc e⟩)
  (fun c o _ e n => by rw [zak (neT c o e)]; exact n) (fun c o hc e => ⟨o, keep c o hc e⟩) (fun c xs e => by rw [zak (zam e hn)]; exact e) (fun c o u e => by rw [zak (zam e hn)]; exact e)
  (fun c ps e => ⟨#[], by rw [zak (zam e hn), e]; simp⟩) (fun m hm => ?_) (fun c u e => ?_) I.bare
 · obtain ⟨o, es, ep, ho, r⟩ := hm
   exact ⟨o, es, ep, keep _ o (fun z => (hch _ z).2.1 rfl) ho, r⟩
 · by_cases hc : c = T
   · subst hc
     rw [zad] at e
     cases e
     obtain ⟨its, r, p⟩ := tup
     exact ⟨by show 2 ≤ sizeLine; decide, its, r, p⟩
   · rw [zak hc] at e
     refine (I.hok c u e).stay (fun d v hd q => keep d v ?_ q) (fun d q => by rw [zak (zam q hn)]; exact q) fun d xs q => by rw [zak (zam q hn)]; exact q
     rcases hd with z | z
     · rw [z]; exact off c u e
     · exact off d _ z
theorem Inv.turnedN {t' : Nat} (I : Inv X pins σ H s) (ch : List Addr) (hch : ∀ c ∈ ch, FpOk X pins H c) (keep : ∀ c o, c ∉ ch → s.heap.get? c = some o → h'.get? c = some o) : Inv X pins σ H { s with heap := h', toks := t' } := by
 have off : ∀ c u, H c = some u → c ∉ ch := fun c u e z => by rw [(hch c z).1] at e; cases e
 refine I.step (g' := s.gens) (d' := s.drawn) (ch := ch) (fun c hc => ⟨(hch c hc).2.2.2.1, (hch c hc).2.1, (hch c hc).2.2.2.2.1, (hch c hc).2.2.2.2.2⟩) (fun c o _ _ hc e _ => keep c o hc e) (fun c o _ _ hc e _ => ⟨o.slots, keep c o hc e⟩)
  (fun c o _ e n => n) (fun c o hc e => ⟨o, keep c o hc e⟩) (fun c xs e => e) (fun c o u e => e) (fun c ps e => ⟨#[], by rw [e]; simp⟩) (fun m hm => ?_) (fun c u e => ?_) I.bare
 · obtain ⟨o, es, ep, ho, r⟩ := hm
   exact ⟨o, es, ep, keep _ o (fun z => (hch _ z).2.1 rfl) ho, r⟩
 · refine (I.hok c u e).stay (fun d v hd q => keep d v ?_ q) (fun _ q => q) fun _ _ q => q
   rcases hd with z | z
   · rw [z]; exact off c u e
   · exact off d _ z
theorem zbq {t c : Addr} {xs : List V} (I : Inv X pins σ H s) (h : SqT X.K H t xs) (f : FpOk X pins H c) : t ≠ c := by
 intro e
 subst e
 rcases h with (h | ⟨o, h⟩) | ⟨o, its, n, hk, _⟩
 · rw [f.1] at h; cases h
 · rw [f.1] at h; cases h
 · have eb := I.ok.mod.kin t o hk
   rcases f.2.2.2.1 with z | z
   · exact I.ok.noex t o eb z
   · exact absurd (Nat.lt_of_lt_of_le (Heap.lt_size eb) (Nat.le_trans I.ok.bsz z)) (Nat.lt_irrefl _)
end
def Itz (K : PySem.W.Frag) (t1 t2 : Addr) : It :=
 ⟨fun k H => ∃ (xs ys : List V) (x y : V), SqT K H t1 xs ∧ SqT K H t2 ys ∧ xs[k]? = some x ∧ ys[k]? = some y,
  fun k H v H' => ∃ p, v = .ref p ∧ H p = none ∧ ∀ (xs ys : List V) (x y : V), SqT K H t1 xs → SqT K H t2 ys → xs[k]? = some x → ys[k]? = some y → H' = upd H p (.tup [x, y]),
  fun k H => ∃ (xs ys : List V), SqT K H t1 xs ∧ SqT K H t2 ys ∧ (xs.length ≤ k ∨ ys.length ≤ k)⟩
theorem zil {P : Program} {w : World} {K : PySem.W.Frag} {es : List Expr} {kk : Nat} {pos : Pos} (t1 t2 z a b i j : Addr) (D : ZA z a b i j) :
 Turn P w K (.Tuple es kk pos) (Itz K t1 t2) [z, a, b, i, j] z (fun k h => IsZip h z a b .none ∧ IsPair h a (.ref i) (.ref j) ∧ (∃ p q, IsPair h b p q) ∧ h.IsTupleIter i t1 k ∧ h.IsTupleIter j t2 k) where
 mem := by simp
 obj := fun k h st c hc => by
  obtain ⟨hz, ha, ⟨p, q, hb⟩, ⟨oi, ei, _, di⟩, ⟨oj, ej, _, dj⟩⟩ := st
  simp only [List.mem_cons, List.not_mem_nil, or_false] at hc
  rcases hc with rfl | rfl | rfl | rfl | rfl
  · exact ⟨_, hz, fun v e => by cases e⟩
  · exact ⟨_, ha, fun v e => by cases e⟩
  · exact ⟨_, hb, fun v e => by cases e⟩
  · exact ⟨oi, ei, fun v e => by rw [di] at e; cases e⟩
  · exact ⟨oj, ej, fun v e => by rw [dj] at e; cases e⟩
 keep := fun k h h' st kp => by
  obtain ⟨hz, ha, ⟨p, q, hb⟩, ⟨oi, ei, ri⟩, ⟨oj, ej, rj⟩⟩ := st
  exact ⟨kp z (by simp) _ hz, kp a (by simp) _ ha, ⟨p, q, kp b (by simp) _ hb⟩, ⟨oi, kp i (by simp) _ ei, ri⟩, ⟨oj, kp j (by simp) _ ej, rj⟩⟩
 item := by
  intro X hP hw hK hc k pins s σ H E I hf st hg
  subst hP hw hK
  obtain ⟨xs, ys, x, y, q1, q2, hx, hy⟩ := hg
  obtain ⟨hz, ha, ⟨p, q, hb⟩, h1, h2⟩ := st
  obtain ⟨its1, r1, g1, _⟩ := I.tuple q1
  obtain ⟨its2, r2, g2, _⟩ := I.tuple q2
  obtain ⟨u1, hu1, v1⟩ := r1.get hx
  obtain ⟨u2, hu2, v2⟩ := r2.get hy
  have fz := hf z (by simp)
  have fb := hf b (by simp)
  have fi := hf i (by simp)
  have fj := hf j (by simp)
  have hT : s.TypeIs (.ref z) "zip" := ⟨_, hz, rfl⟩
  unfold pyNext
  refine wpAny_bind (wpAny_attempt (wpAny_callSpecial?_slot (name := Str.ofString "__next__") hT PySem.F.slot_zip_next (wpAny_call_entry PySem.F.slot_zip_next hT PySem.F.entry_zip_next
   (zjn D ⟨zbq I q1 fz, zbq I q1 fb, zbq I q1 fi, zbq I q1 fj⟩ ⟨zbq I q2 fz, zbq I q2 fb, zbq I q2 fi, zbq I q2 fj⟩ hz ha hb h1 h2 g1 g2 (by simpa using hu1) (by simpa using hu2) fun g a1 a2 a3 a4 a5 a6 => wpAny_pure ?_) (PySem.F.args_zip_next_1 _))))
  refine ⟨_, rfl, wpAny_letOwnedTupleGo_zip a1 fun g' z' m' => ?_⟩
  have zT : z ≠ s.heap.objs.size := Nat.ne_of_lt (Heap.lt_size hz)
  have up : ∀ c o, c ≠ z → g.get? c = some o → g'.get? c = some o := fun c o hc e => m'.extBut c o hc e
  have fr : H s.heap.objs.size = none := I.hok.fresh (Nat.le_refl _)
  have I1 : Inv X pins σ (upd H s.heap.objs.size (.tup [x, y])) { s with heap := g' } := by
   refine I.newTup (t' := s.toks) [z, b, i, j] (fun c hc => ?_) (fun c o hc e => ?_) (Nat.le_refl _) ⟨[u1, u2], .cons v1 (.cons v2 .nil), _, up _ _ zT.symm a5, rfl, rfl, _, rfl⟩
   · simp only [List.mem_cons, List.not_mem_nil, or_false] at hc
     rcases hc with rfl | rfl | rfl | rfl
     · exact fz
     · exact fb
     · exact fi
     · exact fj
   · simp only [List.mem_cons, List.not_mem_nil, or_false, not_or] at hc
     exact up c o hc.1 (a6 c o hc.1 hc.2.1 hc.2.2.1 hc.2.2.2 e)
  obtain ⟨oi, ei, ri⟩ := a3
  obtain ⟨oj, ej, rj⟩ := a4
  refine ⟨.ref s.heap.objs.size, _, I1, rfl, ⟨_, rfl, fr, fun xs' ys' x' y' s1 s2 e1 e2 => ?_⟩, ⟨z', up _ _ D.az (a6 a _ D.az D.ab D.ai D.aj ha), ⟨_, _, up _ _ D.bz a2⟩, ⟨oi, up _ _ D.iz ei, ri⟩, ⟨oj, up _ _ D.jz ej, rj⟩⟩, fun c hc => ?_⟩
  · rw [I.tuple_inj s1 q1, hx] at e1
    rw [I.tuple_inj s2 q2, hy] at e2
    cases e1
    cases e2
    rfl
  · have fc := hf c hc
    have : c ≠ s.heap.objs.size := by
     simp only [List.mem_cons, List.not_mem_nil, or_false] at hc
     obtain ⟨oi', ei', _⟩ := h1
     obtain ⟨oj', ej', _⟩ := h2
     rcases hc with rfl | rfl | rfl | rfl | rfl
     · exact zT
     · exact Nat.ne_of_lt (Heap.lt_size ha)
     · exact Nat.ne_of_lt (Heap.lt_size hb)
     · exact Nat.ne_of_lt (Heap.lt_size ei')
     · exact Nat.ne_of_lt (Heap.lt_size ej')
    rw [zak this]
    exact fc.1
 done := by
  intro X hP hw hK hc k pins s σ H E I hf st hg
  subst hP hw hK
  obtain ⟨xs, ys, q1, q2, hend⟩ := hg
  obtain ⟨hz, ha, ⟨p, q, hb⟩, h1, h2⟩ := st
  obtain ⟨its1, r1, g1, _⟩ := I.tuple q1
  obtain ⟨its2, r2, g2, _⟩ := I.tuple q2
  have l1 := r1.length
  have l2 := r2.length
  have fz := hf z (by simp)
  have fb := hf b (by simp)
  have fi := hf i (by simp)
  have fj := hf j (by simp)
  have hT : s.TypeIs (.ref z) "zip" := ⟨_, hz, rfl⟩
  unfold pyNext
  refine wpAny_bind (wpAny_attempt (wpAny_callSpecial?_slot (name := Str.ofString "__next__") hT PySem.F.slot_zip_next (wpAny_call_entry PySem.F.slot_zip_next hT PySem.F.entry_zip_next
   (zj7 (I.ok.hd hc) D ⟨zbq I q1 fz, zbq I q1 fb, zbq I q1 fi, zbq I q1 fj⟩ ⟨zbq I q2 fz, zbq I q2 fb, zbq I q2 fi, zbq I q2 fj⟩ hz ha hb h1 h2 g1 g2 ?_ fun g e kp he => ?_) (PySem.F.args_zip_next_1 _))))
  · rcases hend with u | u
    · exact .inl (by simp; omega)
    · exact .inr (by simp; omega)
  · obtain ⟨o, ho, hcl⟩ := he
    refine wpAny_bind (wpAny_isInstance (T := "StopIteration") (b := true) ⟨o, ho, hcl⟩ isSubtype_stop ?_)
    refine wpAny_pure ⟨rfl, I.turnedN (t' := s.toks) [z, b, i, j] (fun c hc => ?_) (fun c o hc e => ?_)⟩
    · simp only [List.mem_cons, List.not_mem_nil, or_false] at hc
      rcases hc with rfl | rfl | rfl | rfl
      · exact fz
      · exact fb
      · exact fi
      · exact fj
    · simp only [List.mem_cons, List.not_mem_nil, or_false, not_or] at hc
      exact kp c o hc.1 hc.2.1 hc.2.2.1 hc.2.2.2 e
 self := fun _ _ _ _ _ st h => wpAny_pyIter_zip st.1 h
abbrev zw1 (h : Heap) (t : Addr) : Heap := h.push { cls := .type "tuple_iterator", data := .fields #[.ref t, .int 0 0] }
abbrev zw2 (h : Heap) (t u : Addr) : Heap := (zw1 h t).push { cls := .type "tuple_iterator", data := .fields #[.ref u, .int 0 0] }
abbrev zw3 (h : Heap) (t u : Addr) : Heap := (zw2 h t u).push { cls := .type "tuple", data := .seq #[.ref h.objs.size, .ref (zw1 h t).objs.size] }
abbrev zw4 (h : Heap) (t u : Addr) : Heap := (zw3 h t u).push { cls := .type "tuple", data := .seq #[.none, .none] }
abbrev zw5 (h : Heap) (t u : Addr) : Heap := (zw4 h t u).push { cls := .type "zip", data := .fields #[.none, .bool false, .bool false, .ref (zw2 h t u).objs.size, .ref (zw3 h t u).objs.size] }
theorem zj6 (t u : Addr) (xs ys : Array Value) : Meets (Builtin.«zip.__new__» ⟨[.type "zip", .ref t, .ref u], []⟩) (fun _ R s => s.heap.IsTuple t xs ∧ s.heap.IsTuple u ys ∧
 R (.ok (.ret (.ref (zw4 s.heap t u).objs.size))) { s with heap := zw5 s.heap t u }) :=
 .of_wp fun prog w A R s h => by
  obtain ⟨hp, g, d, tk, os⟩ := s; obtain ⟨g1, g2, h⟩ := h
  have f0 := sub_zip
  have f1 : Heap.IsTuple (Shared.heap ⟨hp, g, d, tk, os⟩) t xs := g1
  have f2 : Heap.IsTuple (Shared.heap ⟨hp.push { cls := .type "tuple_iterator", data := .fields #[.ref t, .int 0 0] }, g, d, tk, os⟩) u ys := Heap.IsTuple.push g2 _
  wp_walk using wpAny_pyIter_tuple f1, wpAny_pyIter_tuple f2
  exact ⟨_, rfl, h⟩
theorem zkT : bootBuiltins "zip" = some (.type "zip") := by decide +kernel
section
variable {X : Cx}
def iZip (K : PySem.W.Frag) (ta : TA) : TI := fun σ H R => ta σ H fun vs H1 => ∃ t u, vs = [.ref t, .ref u] ∧ (∃ xs, SqT K H1 t xs) ∧ (∃ ys, SqT K H1 u ys) ∧ R (Itz K t u) H1
theorem zkp {es : List Expr} {kk : Nat} {tpos : Pos} {a b : Expr} {ta : TA} {p pos : Pos} (hg : Gl X "zip") (hm : X.mg "zip" = none) (ha : PA X [a, b] ta)
 (he : starEach [a, b] X.env = (false, eval a X.env) :: starEach [b] X.env := by rfl) (hpl : (backTo pos (starEach [b] X.env)).any (·.1) = false := by rfl) :
 PI X (.Tuple es kk tpos) (.Call (.Name "zip" p) [a, b] [] pos) (iZip X.K ta) := by
 intro pins s σ H R I h
 refine wpAny_Call_Name_kw (zdS I hg hm zkT ?_ (by decide) (by decide))
 refine PyProof.Rows.callWith_type1 (thn (ha pos pins s σ H _ I h) fun us s1 ⟨vs, H1, I1, r1, t, u, e, ⟨xs, q1⟩, ⟨ys, q2⟩, q⟩ => ?_) he hpl
 subst e
 obtain ⟨u1, u2, rfl, v1, v2⟩ := zgS r1
 cases v1
 cases v2
 obtain ⟨its1, rv1, g1, _⟩ := I1.tuple q1
 obtain ⟨its2, rv2, g2, _⟩ := I1.tuple q2
 refine callType_new PySem.F.called_zip (by decide) (PySem.F.typeCall_zip_2 _ _) (PySem.F.newCall_zip_2 _ _) (fun obj => PySem.F.args_object_init_3 obj _ _) PySem.F.entry_zip_new (zj6 t u its1.toArray its2.toArray) ⟨g1, g2, ?_⟩
 have y1 : (zw1 s1.heap t).objs.size = s1.heap.objs.size + 1 := Heap.size_push ..
 have y2 : (zw2 s1.heap t u).objs.size = s1.heap.objs.size + 2 := by rw [Heap.size_push, y1]
 have y3 : (zw3 s1.heap t u).objs.size = s1.heap.objs.size + 3 := by rw [Heap.size_push, y2]
 have y4 : (zw4 s1.heap t u).objs.size = s1.heap.objs.size + 4 := by rw [Heap.size_push, y3]
 have k5 : ∀ c o, s1.heap.get? c = some o → (zw5 s1.heap t u).get? c = some o := fun c o e => Heap.get?_push_of_some _ (Heap.get?_push_of_some _ (Heap.get?_push_of_some _ (Heap.get?_push_of_some _ (Heap.get?_push_of_some _ e))))
 have e5 : (zw5 s1.heap t u).get? (zw4 s1.heap t u).objs.size = some _ := Heap.get?_push_size _ rfl
 have e4 : (zw5 s1.heap t u).get? (zw3 s1.heap t u).objs.size = some _ := Heap.get?_push_of_some _ (Heap.get?_push_size _ rfl)
 have e3 : (zw5 s1.heap t u).get? (zw2 s1.heap t u).objs.size = some _ := Heap.get?_push_of_some _ (Heap.get?_push_of_some _ (Heap.get?_push_size _ rfl))
 have e2 : (zw5 s1.heap t u).get? (zw1 s1.heap t).objs.size = some _ := Heap.get?_push_of_some _ (Heap.get?_push_of_some _ (Heap.get?_push_of_some _ (Heap.get?_push_size _ rfl)))
 have e1 : (zw5 s1.heap t u).get? s1.heap.objs.size = some _ := Heap.get?_push_of_some _ (Heap.get?_push_of_some _ (Heap.get?_push_of_some _ (Heap.get?_push_of_some _ (Heap.get?_push_size _ rfl))))
 have I2 : Inv X pins σ H1 { s1 with heap := zw5 s1.heap t u } := I1.kept (t' := s1.toks) k5
 have fp : ∀ c, s1.heap.objs.size ≤ c → FpOk X pins H1 c := fun c hc => I1.fpOk hc (I1.hok.fresh hc)
 have D : ZA (zw4 s1.heap t u).objs.size (zw2 s1.heap t u).objs.size (zw3 s1.heap t u).objs.size s1.heap.objs.size (zw1 s1.heap t).objs.size := by
  have n4 : (zw3 s1.heap t u).objs.size < (zw4 s1.heap t u).objs.size := by rw [y3, y4]; exact Nat.lt_succ_self _
  have n3 : (zw2 s1.heap t u).objs.size < (zw3 s1.heap t u).objs.size := by rw [y2, y3]; exact Nat.lt_succ_self _
  have n2 : (zw1 s1.heap t).objs.size < (zw2 s1.heap t u).objs.size := by rw [y1, y2]; exact Nat.lt_succ_self _
  have n1 : s1.heap.objs.size < (zw1 s1.heap t).objs.size := by rw [y1]; exact Nat.lt_succ_self _
  exact ⟨Nat.ne_of_lt (Nat.lt_trans n3 n4), Nat.ne_of_lt n4, Nat.ne_of_lt (Nat.lt_trans n1 (Nat.lt_trans n2 (Nat.lt_trans n3 n4))), Nat.ne_of_lt (Nat.lt_trans n2 (Nat.lt_trans n3 n4)), Nat.ne_of_lt n3, Nat.ne_of_gt (Nat.lt_trans n1 n2), Nat.ne_of_gt n2,
   Nat.ne_of_gt (Nat.lt_trans n1 (Nat.lt_trans n2 n3)), Nat.ne_of_gt (Nat.lt_trans n2 n3), Nat.ne_of_lt n1⟩
 refine ⟨⟨_, e5, rfl⟩, wpAny_pyIter_zip e5 ?_⟩
 refine ⟨_, _, _, _, H1, rfl, I2, zil t u _ _ _ _ _ D, ⟨e5, e3, ⟨_, _, e4⟩, ⟨_, e1, rfl, rfl⟩, ⟨_, e2, rfl, rfl⟩⟩, fun c hc => fp c ?_, q⟩
 simp only [List.mem_cons, List.not_mem_nil, or_false] at hc
 rcases hc with rfl | rfl | rfl | rfl | rfl
 · rw [y4]; exact Nat.le_add_right _ _
 · rw [y2]; exact Nat.le_add_right _ _
 · rw [y3]; exact Nat.le_add_right _ _
 · exact Nat.le_refl _
 · rw [y1]; exact Nat.le_add_right _ _
end
section
variable {X : Cx} {tg iter kx vx : Expr} {ifs : List Expr} {wi : TI} {js : Cap} {g : TG} {tc : TT} {tk tv : TE} {N' : List Str} {scope : Scope} {pos : Pos}
end
section
variable {prog : Program} {w : World} {A : Around} {E : Value → Shared → Prop} {s : Shared}
theorem zh6 {t sl : Addr} {items : Array Value} {vl vu : Value} {lo hi : Option Int} {Q : Value → Shared → Prop} (ht : IsTup s.heap t items) (hs : s.heap.IsSliceOf sl vl vu .none) (pl : IsPart vl lo) (pu : IsPart vu hi)
 (h0 : HT.sIx items.size 0 lo = 0) (h1 : HT.sIx items.size items.size hi = items.size) (h : Q (.ref t) s) : wpAny (model prog w) A (getItem (.ref t) (.ref sl)) Q E s := by
 obtain ⟨os, hos, hcs, hds⟩ := id hs
 have hTs : s.TypeIs (.ref sl) "slice" := ⟨os, hos, hcs⟩
 unfold getItem
 try with_reducible refine wpAny_holding ?_
 first | refine wpAny_bind (wpAny_pure ?_) | skip
 refine wpAny_bind (wpAny_sequenceKey ht.typeIs (by decide) ?_)
 refine wpAny_bind (wpAny_callSpecial?_slot (name := Str.ofString "__getitem__") ht.typeIs PyProof.Rows.slot_tuple_getitem
  (wpAny_call_entry PyProof.Rows.slot_tuple_getitem ht.typeIs PySem.F.entry_tuple_getitem ?_ (PySem.F.args_tuple_getitem_2 _ _)))
 show wpAny _ _ (Builtin.Tuple.tupleItemsOf (.ref t) >>= _) _ _ s
 refine wpAny_bind (tupleItemsOf_ ht ?_)
 refine wpAny_bind (wpAny_typeOf hTs ?_)
 rw [if_pos (by decide)]
 refine wpAny_bind (HT.sliceApplied_gen hs pl pu ?_)
 have yes : ((((HT.sIx items.size 0 lo : Nat) : Int) == 0 && (1 : Int) == 1 && (HT.sIx items.size items.size hi - HT.sIx items.size 0 lo) == items.size) = true) := by
  rw [h0, h1]
  simp
 show wpAny _ _ (if (((HT.sIx items.size 0 lo : Nat) : Int) == 0 && (1 : Int) == 1 && (HT.sIx items.size items.size hi - HT.sIx items.size 0 lo) == items.size) = true then _ else _) _ _ s
 rw [if_pos yes]
 unfold Builtin.Tuple.tupleIsExact
 refine wpAny_bind (wpAny_bind (wpAny_typeOf ht.typeIs (wpAny_pure ?_)))
 rw [if_pos (by decide)]
 exact wpAny_bind (wpAny_rule (wpAny_pure ⟨_, rfl, wpAny_pure h⟩))
end
section
variable {X : Cx}
def rSlW (K : PySem.W.Frag) : V → Option Int → Option Int → Hp → VK → Prop := fun x lo hi H Q => ∃ a xs, x = .ref a ∧ SqT K H a xs ∧
 (HT.sIx xs.length 0 lo = 0 ∧ HT.sIx xs.length xs.length hi = xs.length → Q (.ref a) H) ∧
 (¬ (HT.sIx xs.length 0 lo = 0 ∧ HT.sIx xs.length xs.length hi = xs.length) → ∀ p, H p = none → Q (.ref p) (upd H p (.tup (cutV xs lo hi))))
theorem zg8 : SlR X (rSlW X.K) := by
 intro pins s σ H x v vl vu lo hi sl Q I rx hs pl pu h
 obtain ⟨a, xs, rfl, hx, q1, q2⟩ := h
 by_cases hw : HT.sIx xs.length 0 lo = 0 ∧ HT.sIx xs.length xs.length hi = xs.length
 · cases rx
   obtain ⟨its, r, ht, hz⟩ := I.tuple hx
   have hlen : its.toArray.size = xs.length := by rw [List.size_toArray]; exact r.length.symm
   refine ⟨"tuple", _, PyProof.Rows.slot_tuple_getitem.lookup, ht.typeIs, ?_⟩
   exact zh6 ht hs pl pu (by rw [hlen]; exact hw.1) (by rw [hlen]; exact hw.2) ⟨.ref a, H, I, rfl, q1 hw⟩
 · exact zkh pins s σ H (.ref a) v vl vu lo hi sl Q I rx hs pl pu ⟨a, xs, rfl, hx, hw, q2 hw⟩
theorem zjw {K : PySem.W.Frag} {H : Hp} {a : Addr} {xs : List V} {Q : VK} (h : SqT K H a xs) (q : ∀ p H', Same H H' → SqT K H' p (xs.drop 1) → Q (.ref p) H') : rSlW K (.ref a) (some 1) none H Q := by
 have e0 : HT.sIx xs.length 0 (some 1) = min 1 xs.length := HT.sIx_nat _ _ 1
 refine ⟨a, xs, rfl, h, fun hw => ?_, fun hw p hp => ?_⟩
 · rw [e0] at hw
   have hl : xs.length = 0 := by omega
   have hx : xs = [] := List.length_eq_zero_iff.mp hl
   subst hx
   exact q a H (Same.refl _) h
 · refine q p _ (zaf hp _) (SqT.of ?_)
   rw [zad]
   unfold cutV
   rw [e0, show HT.sIx xs.length xs.length none = xs.length from rfl]
   cases xs with
   | nil => rfl
   | cons x r =>
    have e1 : min 1 (x :: r).length = 1 := by rw [List.length_cons]; omega
    rw [e1]
    congr 2
    rw [List.length_cons, Nat.add_sub_cancel]
    exact List.take_of_length_le (by simp)
end
section
variable {X : Cx} {K : PySem.W.Frag}
theorem zhM (K : PySem.W.Frag) (h : X.K = K) : IxR X (rIxT K) := by subst h; exact zcJ
theorem zfu (K : PySem.W.Frag) (h : X.K = K) {es : List Expr} {k : Nat} {t : TGs} {n : Nat} {pos : Pos} (hc : X.calm = true) (hg : PGs X es t)
 (hn : (assignEach es X.env).length = n := by rfl) (hst : (assignEach es X.env).findIdx? (·.1) = none := by rfl) : PG X (.Tuple es k pos) (gTup K n t) := by subst h; exact zcu hc hg hn hst
end
theorem zkE {K : PySem.W.Frag} {t1 t2 p : Addr} {xs ys : List V} {g : TG} {tc : TT} {te : TE} {σ : St} {H : Hp} {Q : VK} {js : Cap} {n : Nat} (h1 : n ≤ xs.length) (h2 : n ≤ ys.length) (h3 : xs.length ≤ n ∨ ys.length ≤ n) (Pv : Nat → St → List V → Hp → Prop) (h0 : Pv 0 (inn js σ) [] (upd H p (.lst [])))
 (hl : ∀ i σ zs H, i ≤ n → Pv i σ zs H → SqT K H t1 xs ∧ SqT K H t2 ys ∧ H p = some (.lst zs) ∧ zs.length < sizeLine)
 (hs : ∀ (i : Nat) x y σ zs H q (N : St → List V → Hp → Prop), xs[i]? = some x → ys[i]? = some y → H q = none → Pv i σ zs H → (∀ σ' ys' H', Pv (i + 1) σ' ys' H' → N σ' ys' H') → zdK p g tc te zs (.ref q) σ (upd H q (.tup [x, y])) N)
 (hd : ∀ σ zs H, Pv n σ zs H → Q (.ref p) H) : zcw (Itz K t1 t2) p js g tc te σ H Q :=
 zdT (n := n) (J := Itz K t1 t2) (js := js) (σ := σ) (H := H) (p := p) (Q := Q) (g := g) (tc := tc) (te := te) Pv h0 (fun i σ zs H hi pv => (hl i σ zs H hi pv).2.2)
  (fun i σ zs H hi pv => ⟨xs, ys, xs[i], ys[i], (hl i σ zs H (Nat.le_of_lt hi) pv).1, (hl i σ zs H (Nat.le_of_lt hi) pv).2.1, by simp, by simp⟩)
  (fun σ zs H pv => ⟨xs, ys, (hl _ σ zs H (Nat.le_refl _) pv).1, (hl _ σ zs H (Nat.le_refl _) pv).2.1, h3⟩)
  (fun i v σ zs H H' N hi y pv hN => by
   obtain ⟨q, e, hq, y⟩ := y
   subst e
   have ex : xs[i]? = some xs[i] := by simp
   have ey : ys[i]? = some ys[i] := by simp
   have e2 := y xs ys _ _ (hl i σ zs H (Nat.le_of_lt hi) pv).1 (hl i σ zs H (Nat.le_of_lt hi) pv).2.1 ex ey
   subst e2
   exact hs i _ _ σ zs H q N ex ey hq pv hN) hd
section
variable {X : Cx} {pins : List (Addr × Obj)} {σ : St} {H : Hp} {s : Shared} {h' : Heap}
end
section
variable {X : Cx}
end
section
variable {X : Cx} {e : Expr} {te : TE} {pos p2 p3 p4 : Pos} {n : Nat}
end
def unlike (ns : List Int) : Nat := (ns.foldl step_dedup []).length
section
variable {X : Cx} {e : Expr} {te : TE} {pos p2 p3 p4 : Pos}
end
section
variable {X : Cx}
end
end L2
namespace WB
end WB
namespace L2
open PySem PySem.Spec PyProof.Rows
section
variable {X : Cx}
def zk0 (i j : Int) : Prop := i.natAbs < 2 ^ 1000 ∧ j.natAbs < 2 ^ 1000
theorem zcT : OpR X (binaryOp .Mult) (rI zk0 fun i j => .int (i * j)) := opI fun i j _ _ _ _ _ hc q =>
 mul_int q (IntMulOk.of_bits (Nat.le_trans (intBits_le hc.1) (by decide)) (Nat.le_trans (intBits_le hc.2) (by decide)))
theorem zjK (K : PySem.W.Frag) (h : X.K = K) (hr : zcO X) : OpR X (compareOp .NotEq) (rNeD K) := by subst h; exact zgg hr
end
section
variable {K : PySem.W.Frag} {H : Hp} {Q : VK}
end
theorem nb {i : Int} (h0 : 0 ≤ i) (h1 : i < 2 ^ 400) : i.natAbs < 2 ^ 1000 := by
 have : i.natAbs < 2 ^ 400 := by omega
 exact Nat.lt_of_lt_of_le this (by decide)
def ziq (K : PySem.W.Frag) : Sp := fun vs H Q _ => ∃ (a : Addr) (ns : List Int), vs = [.ref a] ∧ SqL K H a (ns.map V.int) ∧ ns.length ≤ 63 ∧ ∀ H', Q (.bl true) H'
theorem mn (i j : Int) : (if j < i then j else i) = min i j := by rw [Int.min_def]; split <;> split <;> omega
def Tups (H H' : Hp) : Prop := ∀ a xs, H a = some (.tup xs) → H' a = some (.tup xs)
theorem Tups.trans {H H1 H2 : Hp} (a : Tups H H1) (b : Tups H1 H2) : Tups H H2 := fun c xs h => b c xs (a c xs h)
theorem Same.tups {H H' : Hp} (s : Same H H') : Tups H H' := fun a xs h => s _ _ h
theorem zcB {H : Hp} {p : Addr} {ys : List V} {o : HO} (h : H p = some (.lst ys)) : Tups H (upd H p o) := fun a xs e => by
 rw [zak (zhA e h (by intro z; cases z))]
 exact e
theorem za5 {H H0 : Hp} {p : Addr} {o : HO} (s : Same H0 H) (n : H0 p = none) : Same H0 (upd H p o) := fun a u e => by
 rw [zak (zam e n)]
 exact s _ _ e
theorem zgW : ∀ {ts : List Str} {us : List Value}, Vals (ts.map V.str) us → ∃ l : List (Str × Tok), strValues l = us ∧ l.map (·.1) = ts
 | [], _, h => by cases h; exact ⟨[], rfl, rfl⟩
 | x :: ts, _, h => by
  rw [List.map_cons] at h
  cases h with
  | cons r h =>
   obtain ⟨t, rfl⟩ := r
   obtain ⟨l, h1, h2⟩ := zgW h
   exact ⟨(x, t) :: l, by rw [← h1]; rfl, by rw [← h2]; rfl⟩
theorem zdO : ∀ {ts : List Str} {us : List Value}, Vals (ts.map V.str) us → StrsAre us ts
 | [], _, h => by cases h; exact .nil
 | x :: ts, _, h => by
  rw [List.map_cons] at h
  cases h with
  | cons r h =>
   obtain ⟨t, rfl⟩ := r
   exact .cons _ _ (zdO h)
theorem zc1 : ∀ {us : List Value} {ts : List Str}, StrsAre us ts → Vals (ts.map V.str) us
 | _, _, .nil => .nil
 | _, _, .cons n t h => .cons ⟨t, rfl⟩ (zc1 h)
section
variable {X : Cx}
def zk9 (K : PySem.W.Frag) : V → List V → Hp → VK → Prop := fun x vs H Q => ∃ (y : Str) (a : Addr) (ts : List Str), x = .str y ∧ vs = [.ref a] ∧ SqL K H a (ts.map V.str) ∧ JoinOk y ts = true ∧ Q (.str (Txt.join y ts)) H
theorem zjO : MtM X "str.join" (zk9 X.K) := by
 intro pins s σ H x vs v us Q I rx rv h
 obtain ⟨y, a, ts, rfl, rfl, hq, hok, q⟩ := h
 obtain ⟨t, rfl⟩ := rx
 obtain ⟨u, rfl, ru⟩ := rv.one
 cases ru
 obtain ⟨its, r, ht, hz⟩ := I.list hq
 obtain ⟨l, rfl, rfl⟩ := zgW r
 unfold JoinOk at hok
 rw [Bool.not_eq_true'] at hok
 refine call_meets F.slot_str_join (typeIs_str _ _ _) F.entry_str_join (F.args_str_join_2 _ _) (meets_str_join_list y t a l hok) ⟨ht.isList, post_join l ⟨joinFit_length hok, fun t' k => ?_⟩⟩
 exact ⟨.str _, H, I.kept (t' := k) fun b o e => e, ⟨t', rfl⟩, q⟩
def zkm (K : PySem.W.Frag) : List V → Hp → VK → Prop := fun xs H Q => ∃ (a : Addr) (ns : List Str), xs = [.ref a] ∧ SqL K H a (ns.map V.str) ∧ ns.length < 64 ∧
 ∀ (p : Addr) (ms : List Str), ms.Perm ns → sortedS ms = true → H p = none → Q (.ref p) (upd H p (.lst (ms.map V.str)))
theorem ze3 : zc0 X (.builtin "sorted") (zkm X.K) := by
 intro pins s σ H xs us Q I r h
 obtain ⟨a, ns, rfl, hq, h64, q⟩ := h
 obtain ⟨u, rfl, rx⟩ := zdW r
 cases rx
 obtain ⟨its, rv, ht, hz⟩ := I.list hq
 have hl := rv.length
 rw [List.length_map] at hl
 refine sorted_strs ht.isList (zdO rv) (by omega) fun out ns' a1 a2 a3 => ?_
 obtain ⟨e, he⟩ := sortedAll_at s.heap its out
 have hn : H (s.heap.objs.size + 1) = none := I.hok.fresh (Nat.le_succ _)
 have hlen : ns'.length = ns.length := a2.length_eq
 refine ⟨.ref (s.heap.objs.size + 1), upd H (s.heap.objs.size + 1) (.lst (ns'.map V.str)), I.laid (t' := s.toks) (fun b o e => sortedAll_old e) (Nat.le_succ _) ?_, rfl, q _ ns' a2 a3 hn⟩
 have hz' : ns.length ≤ sizeLine := by rw [List.length_map] at hz; exact hz
 exact ⟨by rw [List.length_map]; omega, out.toList, e, zc1 a1, by simpa [seqObj] using he⟩
end
section
variable {prog : Program} {w : World} {A : Around} {E : Value → Shared → Prop} {s : Shared}
end
section
variable {prog : Program} {w : World} {A : Around} {R : Result → Shared → Prop} {I : Addr} {fp wr : List Addr} {G : Array GenState → Array GenState → Prop} {P : Nat → Value → Prop} {St : Nat → Shared → Prop}
end
section
variable {prog : Program} {w : World} {A : Around} {E : Value → Shared → Prop} {s : Shared}
end
section
variable {prog : Program} {w : World} {A : Around} {E : Value → Shared → Prop} {s : Shared}
end
namespace FS
end FS
section
variable {prog : Program} {w : World} {A : Around} {E : Value → Shared → Prop} {s : Shared}
end
section
variable {prog : Program} {w : World} {A : Around} {E : Value → Shared → Prop} {s : Shared}
end
section
variable {prog : Program} {w : World} {A : Around} {E : Value → Shared → Prop} {s : Shared}
end
namespace FS
end FS
section
variable {prog : Program} {w : World} {A : Around} {E : Value → Shared → Prop} {s : Shared}
end
section
variable {prog : Program} {w : World} {A : Around} {E : Value → Shared → Prop} {s : Shared}
end
section
variable {X : Cx} {e : Expr} {te : TE} {pos p2 p3 p4 : Pos}
end
theorem zem : typeLookup (.type "tuple") "keys" = pure none := by rw [typeLookup_type, builtinLookup_eq_fast]; kernel_rfl
set_option maxHeartbeats 4000000 in
theorem tup_no_keys {prog : Program} {w : World} {A : Around} {E : Value → Shared → Prop} {a : Addr} {its : Array Value} {n : Nat} {sl : Array (Option Value)} {h : Heap} {g d t os} {Q : Option Value → Shared → Prop}
 (hh : A.handled = none) (hx : h.get? a = some { cls := .type "tuple", dict := none, data := .seq its n, slots := sl })
 (q : ∀ h' tk, (∀ b o, h.get? b = some o → h'.get? b = some o) → Q none ⟨h', g, d, tk, os⟩) : wpAny (model prog w) A (getAttr? (.ref a) "keys") Q E ⟨h, g, d, t, os⟩ := by
 have y0 : ∀ tk', (⟨h, g, d, tk', os⟩ : Shared).TypeIs (.ref a) "tuple" := fun _ => ⟨_, hx, rfl⟩
 have y1 := sub_AttributeError
 have y2 := F.slot_tuple_getattribute.lookup
 have y3 := F.slot_tuple_getattribute.bind (.ref a)
 have y4 := am_tuple_getattr_none
 unfold getAttr? getAttrBy? getAttrBy
 repeat (any_goals (first
  | assumption
  | exact y0 _
  | ((with_reducible show wpAny _ _ (call (Value.builtin "tuple.__getattribute__") _ _) _ _ _)
     refine call_meets F.slot_tuple_getattribute (y0 _) am_entry_tuple_getattribute (F.args_tuple_getattribute_2 _ _) (meets_getattribute_miss_tuple a its n sl "keys" _ zem (by decide +kernel)) ⟨hx, hh, fun h' tk' e hx' => ?_⟩)
  | wp_step))
 obtain ⟨t', u', he⟩ := hx'.there
 show wpAny _ _ (getattributeRaised _ _ _ _ _ _ _) _ _ _
 unfold getattributeRaised
 repeat (any_goals (first | assumption | wp_step))
 exact q _ _ hx'.keeps
section
variable {prog : Program} {w : World} {A : Around} {E : Value → Shared → Prop} {s : Shared}
end
section
variable {X : Cx}
end
namespace FS
end FS
section
variable {prog : Program} {w : World} {A : Around} {E : Value → Shared → Prop} {s : Shared}
variable {κ : Type} [DecidableEq κ] {knd : PySem.KeyKind prog w κ}
end
section
variable {X : Cx}
end
section
variable {X : Cx}
end
end L2
namespace L2
open PySem.W PyProof.Rows
namespace KS
variable {lt : Nat → Nat → Bool} {N : Nat}
structure Ord (lt : Nat → Nat → Bool) : Prop where
 as : ∀ a b, lt a b = true → lt b a = false
 tr : ∀ a b c, lt b a = false → lt c b = false → lt c a = false
abbrev K (p : Array Nat) (i : Nat) : Nat := p.getD i 0
structure Ok (N : Nat) (p : Array Nat) : Prop where
 perm : p.toList.Perm (List.range N)
theorem Ok.size {p : Array Nat} (h : Ok N p) : p.size = N := by
 have := h.perm.length_eq
 simpa using this
def Srt (lt : Nat → Nat → Bool) (p : Array Nat) (m : Nat) : Prop := ∀ i j, i < j → j < m → lt (K p j) (K p i) = false
end KS
end L2
set_option maxHeartbeats 1000000
namespace L2
open PySem PySem.Spec PyProof.Rows PySem.W
section
variable {prog : Program} {w : World} {A : Around} {E : Value → Shared → Prop} {s : Shared}
end
end L2
namespace L2
open PySem PySem.Spec PyProof.Rows
def endV : V → Bool
 | .non => true
 | .int _ => true
 | _ => false
def leV : V → V → Bool
 | .int i, .int j => decide (i ≤ j)
 | _, _ => true
def zbo (H : Hp) : V → Bool
 | .ref a => match H a with
  | some (.tup [x, y]) => endV x && endV y && leV x y
  | _ => false
 | _ => false
def SpanAt (H : Hp) (v : V) (lo hi : Option Int) : Prop := ∃ a, v = .ref a ∧ H a = some (.tup [eV lo, eV hi])
def leO : Option Int → Option Int → Bool
 | some i, some j => decide (i ≤ j)
 | _, _ => true
theorem zhO {H : Hp} {v : V} {lo hi : Option Int} (h : SpanAt H v lo hi) : zbo H v = leO lo hi := by
 obtain ⟨a, rfl, e⟩ := h
 unfold zbo
 simp only [e]
 cases lo <;> cases hi <;> simp [eV, endV, leV, leO]
theorem zj8 {K : PySem.W.Frag} {H : Hp} (o : Option Int) : ∃ t, TyOf K H (eV o) (.type t) := by
 cases o with
 | none => exact ⟨_, .non⟩
 | some i => exact ⟨_, .int i⟩
def zfe (K : PySem.W.Frag) : Sp := fun vs H Q _ => ∃ (v : V) (t : String), vs = [v] ∧ TyOf K H v (.type t) ∧ Q (.bl (t == "int")) H
def zjv (K : PySem.W.Frag) : Sp := fun vs H Q _ => ∃ (v : V) (t : String), vs = [v] ∧ TyOf K H v (.type t) ∧ Q (.bl (endV v)) H
def zjl (K : PySem.W.Frag) (H : Hp) (v : V) : Prop := ∀ a x y, v = .ref a → H a = some (.tup [x, y]) → ∃ t1 t2, TyOf K H x (.type t1) ∧ TyOf K H y (.type t2)
def zd2 (K : PySem.W.Frag) : Sp := fun vs H Q _ => ∃ (v : V) (t : String), vs = [v] ∧ TyOf K H v (.type t) ∧ zjl K H v ∧ Q (.bl (zbo H v)) H
theorem SpanAt.ty {K : PySem.W.Frag} {H : Hp} {v : V} {lo hi : Option Int} (h : SpanAt H v lo hi) : TyOf K H v (.type "tuple") ∧ zjl K H v := by
 obtain ⟨a, rfl, q⟩ := h
 refine ⟨.tup q, fun a' x y e q' => ?_⟩
 cases e
 rw [q] at q'
 injection q' with q'
 injection q' with q'
 injection q' with e1 e2
 injection e2 with e2 _
 subst e1 e2
 obtain ⟨t1, h1⟩ := zj8 (K := K) (H := H) lo
 obtain ⟨t2, h2⟩ := zj8 (K := K) (H := H) hi
 exact ⟨t1, t2, h1, h2⟩
def zet : Option Int → Option Int → Bool
 | none, _ => true
 | some _, none => false
 | some l, some o => decide (l ≤ o)
def upB : Option Int → Option Int → Bool
 | none, _ => true
 | some _, none => false
 | some h, some o => decide (o ≤ h)
def zb5 (lo hi lo2 hi2 : Option Int) : Bool := zet lo lo2 && upB hi hi2
def apart : Option Int → Option Int → Bool
 | some l, some h => decide (h < l)
 | _, _ => false
def zfi : Sp := fun vs H Q _ => ∃ (v w : V) (lo hi lo2 hi2 : Option Int), vs = [v, w] ∧ SpanAt H v lo hi ∧ SpanAt H w lo2 hi2 ∧ Q (.bl (zb5 lo hi lo2 hi2)) H
abbrev T15 : Int := 1000000000000000
theorem e15 : (10 : Int) ^ (15 : Int).toNat = T15 := by decide
theorem pw10 {j : Int} (h0 : 0 ≤ j) (h1 : j ≤ 1000) : zkZ 10 j := ⟨h0, h1, by decide⟩
def dE : Option Int → PD
 | none => .non
 | some i => .int i
theorem zi8 {K : PySem.W.Frag} {H : Hp} (o : Option Int) : Rep K H (dE o) (eV o) := by
 cases o with
 | none => show Rep K H .non .non; rw [Rep]
 | some i => show Rep K H (.int i) (.int i); rw [Rep]
def zbH (c : Nat) : Bool := decide (97 ≤ c) && decide (c ≤ 122)
structure FieldOk (x : Str) : Prop where
 one : 1 ≤ x.length
 eight : x.length ≤ 8
 all : ∀ c ∈ x.cps.toList, zbH c = true
theorem zli : ("a" : Str).cps.toList = [97] := by decide +kernel
theorem zlh : ("z" : Str).cps.toList = [122] := by decide +kernel
theorem ge_a {c : Nat} (h : zbH c = true) : (!decide ((⟨#[c]⟩ : Str).cps.toList < ("a" : Str).cps.toList)) = true := by
 rw [zli]
 have h1 : 97 ≤ c := of_decide_eq_true ((Bool.and_eq_true _ _).mp h).1
 have : ¬ ([c] : List Nat) < [97] := by
  intro z
  cases z with
  | rel z => exact absurd z (by omega)
  | cons z => cases z
 show (!decide (([c] : List Nat) < [97])) = true
 rw [decide_eq_false this]
 rfl
theorem le_z {c : Nat} (h : zbH c = true) : (!decide (("z" : Str).cps.toList < (⟨#[c]⟩ : Str).cps.toList)) = true := by
 rw [zlh]
 have h1 : c ≤ 122 := of_decide_eq_true ((Bool.and_eq_true _ _).mp h).2
 have : ¬ ([122] : List Nat) < [c] := by
  intro z
  cases z with
  | rel z => exact absurd z (by omega)
  | cons z => cases z
 show (!decide (([122] : List Nat) < [c])) = true
 rw [decide_eq_false this]
 rfl
def zfl : Sp := fun vs H Q _ => ∃ x : Str, vs = [.str x] ∧ FieldOk x ∧ ∀ H', Same H H' → Q (.bl true) H'
def zlj (H : Hp) (p : Addr) (f : Str) (lo hi : Option Int) : Prop := H p = some (.tup [.str f, eV lo, eV hi])
def zcP : Sp := fun vs H Q _ => ∃ (p : Addr) (f : Str) (lo hi : Option Int), vs = [.ref p] ∧ zlj H p f lo hi ∧ FieldOk f ∧ leO lo hi = true ∧ ∀ H', Same H H' → Q (.bl true) H'
def ltF (f g : Str) : Prop := f.cps.toList < g.cps.toList
def zd4 : Sp := fun vs H Q _ => ∃ (a : Addr) (ps : List (Addr × Str × List V)), vs = [.ref a] ∧ H a = some (.tup (ps.map fun p => V.ref p.1)) ∧ ps.length ≤ 100 ∧ (∀ p ∈ ps, H p.1 = some (.tup (V.str p.2.1 :: p.2.2))) ∧
 (∀ (i : Nat) p q, ps[i]? = some p → ps[i + 1]? = some q → ltF p.2.1 q.2.1) ∧ ∀ H', Same H H' → Q (.bl true) H'
abbrev WP := Str × Option Int × Option Int
def WishAt (H : Hp) (a : Addr) (w : List WP) : Prop := ∃ ps : List (Addr × WP), ps.map (·.2) = w ∧ H a = some (.tup (ps.map fun p => V.ref p.1)) ∧ ∀ p ∈ ps, H p.1 = some (.tup [.str p.2.1, eV p.2.2.1, eV p.2.2.2])
theorem WishAt.keep {H H' : Hp} {a : Addr} {w : List WP} (h : WishAt H a w) (s : Tups H H') : WishAt H' a w := by
 obtain ⟨ps, e, h1, h2⟩ := h
 exact ⟨ps, e, s _ _ h1, fun p hp => s _ _ (h2 p hp)⟩
theorem WishAt.same {H H' : Hp} {a : Addr} {w : List WP} (h : WishAt H a w) (s : Same H H') : WishAt H' a w := h.keep s.tups
structure WOk (w : List WP) : Prop where
 len : w.length ≤ 100
 ok : ∀ p ∈ w, FieldOk p.1 ∧ leO p.2.1 p.2.2 = true
 asc : (w.map (·.1)).Pairwise ltF
def za6 (w : List WP) (f : Str) : Option (Option Int × Option Int) := (w.find? (fun p => decide (p.1 = f))).map (·.2)
theorem zdm {w : List WP} {f : Str} (h : ∀ p ∈ w, p.1 ≠ f) : za6 w f = none := by
 unfold za6
 rw [List.find?_eq_none.mpr fun p hp z => h p hp (of_decide_eq_true z)]
 rfl
theorem zfc (w : List WP) (p : WP) (f : Str) (hn : za6 w p.1 = none) : za6 (w ++ [p]) f = if f = p.1 then some p.2 else za6 w f := by
 unfold za6 at *
 rw [List.find?_append]
 by_cases h : f = p.1
 · subst h
   rw [if_pos rfl]
   cases e : w.find? (fun q => decide (q.1 = p.1)) with
   | some q => rw [e] at hn; cases hn
   | none => simp
 · rw [if_neg h]
   cases e : w.find? (fun q => decide (q.1 = f)) with
   | some q => rfl
   | none => simp; exact fun z => h z.symm
theorem zkD {f g : Str} (h : ltF f g) : f ≠ g := fun e => by
 subst e
 exact List.lt_irrefl _ h
theorem WOk.fresh {w : List WP} (h : WOk w) {i : Nat} {p : WP} (hp : w[i]? = some p) : za6 (w.take i) p.1 = none := by
 refine zdm fun q hq e => ?_
 obtain ⟨j, hj⟩ := List.getElem?_of_mem hq
 rw [List.getElem?_take] at hj
 split at hj
 · rename_i lt
   have hi : i < w.length := (List.getElem?_eq_some_iff.mp hp).1
   have := List.pairwise_iff_getElem.mp h.asc j i (by rw [List.length_map]; omega) (by rw [List.length_map]; exact hi) lt
   rw [List.getElem_map, List.getElem_map] at this
   have e1 : w[j]'(by omega) = q := (List.getElem?_eq_some_iff.mp hj).2
   have e2 : w[i] = p := (List.getElem?_eq_some_iff.mp hp).2
   rw [e1, e2] at this
   exact zkD this e
 · cases hj
def DictSp (H : Hp) (d : Addr) (w : List WP) : Prop := ∃ kvs : List (Key × V), H d = some (.dK kvs) ∧ kvs.length ≤ w.length ∧ ∀ f : Str, match za6 w f with
 | none => valV kvs (.inr f) = none
 | some s => ∃ t, valV kvs (.inr f) = some (.ref t) ∧ H t = some (.tup [eV s.1, eV s.2])
theorem DictSp.same {H H' : Hp} {d : Addr} {w : List WP} (h : DictSp H d w) (s : Same H H') : DictSp H' d w := by
 obtain ⟨kvs, e, l, q⟩ := h
 refine ⟨kvs, s _ _ e, l, fun f => ?_⟩
 have := q f
 cases hs : za6 w f with
 | none => rw [hs] at this; exact this
 | some sp => rw [hs] at this; obtain ⟨t, h1, h2⟩ := this; exact ⟨t, h1, s _ _ h2⟩
def zc5 (other : List WP) (p : WP) : Bool := match za6 other p.1 with
 | none => false
 | some s => zb5 p.2.1 p.2.2 s.1 s.2
theorem zdt {other : List WP} {p : WP} (h : za6 other p.1 = none) : zc5 other p = false := by unfold zc5; rw [h]
theorem zcy {other : List WP} {p : WP} {s : Option Int × Option Int} (h : za6 other p.1 = some s) : zc5 other p = zb5 p.2.1 p.2.2 s.1 s.2 := by unfold zc5; rw [h]
def zaG (one other : List WP) : Bool := one.all (zc5 other)
def zd1 : Sp := fun vs H Q _ => ∃ (a : Addr) (w : List WP), vs = [.ref a] ∧ WishAt H a w ∧ WOk w ∧ ∀ H', Same H H' → Q (.bl true) H'
def zdo : Sp := fun vs H Q _ => ∃ (a : Addr) (w : List WP), vs = [.ref a] ∧ WishAt H a w ∧ WOk w ∧ ∀ d H', Same H H' → H d = none → DictSp H' d w → Q (.ref d) H'
def zdp : Sp := fun vs H Q _ => ∃ (a d : Addr) (w w' : List WP), vs = [.ref a, .ref d] ∧ WishAt H a w ∧ DictSp H d w' ∧ ∀ H', Same H H' → Q (.bl (zaG w w')) H'
theorem zkS {K : PySem.W.Frag} {a p : Addr} {xs : List V} {g : TG} {tc : TT} {tk tv : TE} {σ : St} {H : Hp} {Q : VK} {js : Cap} (Pv : Nat → St → List (Key × V) → Hp → Prop) (h0 : Pv 0 (inn js σ) [] (upd H p (.dK [])))
 (hl : ∀ i σ kvs H, i ≤ xs.length → Pv i σ kvs H → SqT K H a xs ∧ H p = some (.dK kvs) ∧ kvs.length < sizeLine)
 (hs : ∀ (i : Nat) x σ kvs H (N : St → List (Key × V) → Hp → Prop), xs[i]? = some x → Pv i σ kvs H → (∀ σ' kvs' H', Pv (i + 1) σ' kvs' H' → N σ' kvs' H') → g x σ H fun σ2 H2 => tc σ2 H2 fun b H3 =>
  if b = true then tk σ2 H3 fun k H4 => tv σ2 H4 fun y H5 => ∃ ky, k = kV ky ∧ H5 p = some (.dK kvs) ∧ N σ2 (putK kvs ky y) (upd H5 p (.dK (putK kvs ky y))) else N σ2 kvs H3)
 (hd : ∀ σ kvs H, Pv xs.length σ kvs H → Q (.ref p) H) : zig (Itt K a) p js g tc tk tv σ H Q := by
 refine ⟨fun i m σ kvs H => m = xs.length - i ∧ i ≤ xs.length ∧ Pv i σ kvs H, ⟨xs.length, by simp, Nat.zero_le _, h0⟩, ?_⟩
 rintro i m σ kvs H ⟨rfl, hi, pv⟩
 obtain ⟨q0, q1, q2⟩ := hl i σ kvs H hi pv
 refine ⟨q1, ?_⟩
 by_cases lt : i < xs.length
 · refine .inr ⟨⟨xs, xs[i], q0, by simp [lt]⟩, q2, fun x H' y => ?_⟩
   obtain ⟨e, y⟩ := y
   subst e
   exact hs i x σ kvs H' (fun σ2 kvs2 H2 => ∃ m', m' < xs.length - i ∧ m' = xs.length - (i + 1) ∧ i + 1 ≤ xs.length ∧ Pv (i + 1) σ2 kvs2 H2) (y xs q0) pv fun σ' ys' H' p' => ⟨xs.length - (i + 1), by omega, rfl, lt, p'⟩
 · have e : i = xs.length := by omega
   subst e
   exact .inl ⟨⟨xs, q0, Nat.le_refl _⟩, hd σ kvs H pv⟩
theorem zju {x y : Str} (h : x.cps.toList = y.cps.toList) : x = y := by
 obtain ⟨a⟩ := x
 obtain ⟨b⟩ := y
 congr
 exact Array.toList_inj.mp h
theorem zhD {x y : Str} (h : ¬ ltF x y) (n : x ≠ y) : ltF y x := by
 unfold ltF at *
 rcases Std.lt_trichotomy (α := List Nat) x.cps.toList y.cps.toList with h1 | h1 | h1
 · exact absurd h1 h
 · exact absurd (zju h1) n
 · exact h1
theorem zhE {x y z : Str} (h : ltF x y) (h2 : ltF y z) : ltF x z := List.lt_trans h h2
theorem zeI : ∀ (r : List Str) (p : Str), risingS p r = true → (p :: r).Nodup → (p :: r).Pairwise ltF
 | [], p, _, _ => List.pairwise_singleton _ _
 | x :: r, p, h, n => by
  unfold risingS at h
  rw [Bool.and_eq_true, Bool.not_eq_true', ltCps_eq, decide_eq_false_iff_not] at h
  rw [List.nodup_cons] at n
  have px : ltF p x := zhD (x := x) (y := p) h.1 (fun e => n.1 (by rw [← e]; exact List.mem_cons_self))
  have ih := zeI r x h.2 n.2
  rw [List.pairwise_cons]
  refine ⟨fun y hy => ?_, ih⟩
  rcases List.mem_cons.mp hy with rfl | hy
  · exact px
  · exact zhE px ((List.pairwise_cons.mp ih).1 y hy)
theorem zg7 {ms : List Str} (h : sortedS ms = true) (n : ms.Nodup) : ms.Pairwise ltF := by
 cases ms with
 | nil => exact .nil
 | cons x r => exact zeI r x h n
theorem az : ("abcdefghijklmnopqrstuvwxyz" : Str).cps.toList = (List.range 26).map (· + 97) := by decide +kernel
theorem zkW {r : Int} (h0 : 0 ≤ r) (h1 : r < 26) : ∃ c, atI ("abcdefghijklmnopqrstuvwxyz" : Str).cps.toList r = some c ∧ zbH c = true := by
 rw [az]
 obtain ⟨k, rfl⟩ : ∃ k : Nat, r = k := ⟨r.toNat, by omega⟩
 have hk : k < 26 := by omega
 refine ⟨k + 97, ?_, ?_⟩
 · refine zbX ?_
   rw [List.getElem?_map, List.getElem?_range hk]
   rfl
 · unfold zbH
   rw [Bool.and_eq_true]
   exact ⟨decide_eq_true (by omega), decide_eq_true (by omega)⟩
theorem zdU : ∀ (cs : List Nat), (Txt.join ("" : Str) (cs.map fun c => (⟨#[c]⟩ : Str))).cps.toList = cs
 | [] => rfl
 | [c] => rfl
 | c :: d :: r => by
  have ih := zdU (d :: r)
  have e : ∀ (ts : List Str), Txt.join ("" : Str) ts = Str.join ("" : Str) ts := fun ts => StrLaws.glued_eq_join _ _
  rw [e] at ih ⊢
  show ((⟨#[c]⟩ : Str) ++ ("" : Str) ++ Str.join ("" : Str) ((d :: r).map fun c => (⟨#[c]⟩ : Str))).cps.toList = _
  have : ((⟨#[c]⟩ : Str) ++ ("" : Str) ++ Str.join ("" : Str) ((d :: r).map fun c => (⟨#[c]⟩ : Str))).cps.toList = c :: (Str.join ("" : Str) ((d :: r).map fun c => (⟨#[c]⟩ : Str))).cps.toList := by
   show (#[c] ++ #[] ++ _ : Array Nat).toList = _
   simp
  rw [this, ih]
theorem zjR (cs : List Nat) (h : cs.length ≤ 1000) : JoinOk ("" : Str) (cs.map fun c => (⟨#[c]⟩ : Str)) = true := by
 unfold JoinOk
 rw [Bool.not_eq_true']
 refine StrLaws.joinFits (B := 1) (fun y hy => ?_) ?_
 · obtain ⟨c, _, rfl⟩ := List.mem_map.mp hy
   exact Nat.le_refl 1
 · rw [List.length_map]
   show cs.length * 1 + cs.length * 0 ≤ _
   omega
theorem zgM {cs : List Nat} (h1 : 1 ≤ cs.length) (h8 : cs.length ≤ 8) (ok : ∀ c ∈ cs, zbH c = true) : FieldOk (Txt.join ("" : Str) (cs.map fun c => (⟨#[c]⟩ : Str))) := by
 have e := zdU cs
 have hl : (Txt.join ("" : Str) (cs.map fun c => (⟨#[c]⟩ : Str))).length = cs.length := by
  show Array.size _ = _
  rw [← Array.length_toList, e]
 exact ⟨by rw [hl]; exact h1, by rw [hl]; exact h8, by rw [e]; exact ok⟩
theorem SameB.off {b g p : Addr} {H H' : Hp} {o : HO} (s : SameB b g H H') (hp : H p = none) : SameB b g H (upd H' p o) := fun a x h n1 n2 => by
 have : a ≠ p := fun e => by rw [e, hp] at h; cases h
 rw [zak this]
 exact s a x h n1 n2
end L2
namespace L2
open PySem PySem.Spec PyProof.Rows PySem.W
theorem zeA {α : Type} {f : α → Addr} : ∀ {ps : List α} {us : List Value}, Vals (ps.map fun p => V.ref (f p)) us → us = ps.map fun p => Value.ref (f p)
 | [], _, h => by cases h; rfl
 | p :: ps, _, h => by
  rw [List.map_cons] at h
  cases h with
  | cons r h =>
   obtain rfl : _ = Value.ref (f p) := r
   rw [zeA h]
   rfl
theorem ziG {α : Type} (d : α) {ps : List α} {p : Array Nat} (h : KS.Ok ps.length p) : (p.toList.map fun i => ps.getD i d).Perm ps := by
 have e : (List.range ps.length).map (fun i => ps.getD i d) = ps := by
  apply List.ext_getElem
  · simp
  · intro i h1 h2
    simp [h2]
 have := h.perm.map (fun i => ps.getD i d)
 rw [e] at this
 exact this
theorem ziS {α β : Type} (f : α → β) (d : α) (e : β) (ps : List α) {i : Nat} (h : i < ps.length) : (ps.map f).getD i e = f (ps.getD i d) := by
 simp [h]
section
variable {X : Cx}
end
end L2
namespace L2
open PySem PySem.Spec PyProof.Rows
open PySem.AutoSeq1 (wpAny_loadPart')
open PySem.MeetsSeq PySem.MeetsSeq2 PySem.MeetsSeq3 PySem.SeqRoads2
def LtAt (A : Around) (s : Shared) (y x : Value) (b : Bool) : Prop :=
 ∀ (prog : Program) (w : World) (E : Value → Shared → Prop) (Q : Value → Shared → Prop), Q (.bool b) s → wpAny (model prog w) A (richCompare .Lt y x) Q E s
structure FirstAt (A : Around) (s : Shared) (items items2 : Array Value) (b : Bool) (j : Nat) : Prop where
 le1 : j ≤ items.size
 le2 : j ≤ items2.size
 same : ∀ i (h1 : i < items.size) (h2 : i < items2.size), i < j → SeqAt.EqAt A s items[i] items2[i] true
 fin : ((items.size ≤ j ∨ items2.size ≤ j) ∧ b = decide (items.size < items2.size)) ∨ ∃ (h1 : j < items.size) (h2 : j < items2.size), SeqAt.EqAt A s items[j] items2[j] false ∧ LtAt A s items[j] items2[j] b
section
variable {P : Program} {w : World}
theorem zfQ (l b : Addr) (items items2 : Array Value) (n n2 : Nat) (dd dd2 : Option Addr) (sl sl2 : Array (Option Value)) (c : Bool) (j k : Nat) :
 ∀ i : Nat, j - i = k → i ≤ j → ∀ (A : Around) (R : Result → Shared → Prop) (s : Shared), s.heap.get? l = some { cls := .type "list", dict := dd, data := .seq items n, slots := sl } → s.heap.get? b = some { cls := .type "list", dict := dd2, data := .seq items2 n2, slots := sl2 } →
  FirstAt A.in1 s items items2 c j → R (.ok (.ret (.bool c))) s →
  wpAny (model P w) A.in1 (Builtin.«list.__eq__.loop» ⟨[.ref l, .ref b, rawInt i, rawInt 0], []⟩) (fun fin s' => match fin with | .done f => R (.ok f) s' | .again c' => c'.quiet = true ∧ codeAny (model P w) A c' R s') (fun e s' => R (.error e) s') s := by
 induction k with
 | zero =>
  intro i hk hij A R s hl hb F h
  obtain rfl : i = j := by omega
  obtain ⟨hp, g, d, tk, os⟩ := s
  rcases F.fin with ⟨hs, hc⟩ | ⟨h1, h2, he, hlt⟩
  · wp_walk using wpAny_loadPart' hl, wpAny_loadPart' hb
    by_cases c1 : i < items.size
    · have o1 : items[((i : Nat) : Int).toNat]? = some items[i] := by simp [c1]
      have o2 : items2[((i : Nat) : Int).toNat]? = none := by simp; omega
      rw [o1, o2]
      wp_walk using wpAny_loadPart' hl, wpAny_loadPart' hb
      show R (.ok (.ret (.bool (decide (items.size < items2.size))))) _
      rw [← hc]
      exact h
    · have o1 : items[((i : Nat) : Int).toNat]? = none := by simp; omega
      rw [o1]
      wp_walk using wpAny_loadPart' hl, wpAny_loadPart' hb
      show R (.ok (.ret (.bool (decide (items.size < items2.size))))) _
      rw [← hc]
      exact h
  · wp_walk using wpAny_loadPart' hl, wpAny_loadPart' hb
    have o1 : items[((i : Nat) : Int).toNat]? = some items[i] := by simp [h1]
    have o2 : items2[((i : Nat) : Int).toNat]? = some items2[i] := by simp [h2]
    rw [o1, o2]
    refine wpAny_bind (he _ _ _ _ ?_)
    wp_walk using wpAny_loadPart' hl, wpAny_loadPart' hb
    rw [o1, o2]
    refine wpAny_bind (hlt _ _ _ _ ?_)
    wp_walk
    exact h
 | succ k ih =>
  intro i hk hij A R s hl hb F h
  obtain ⟨hp, g, d, tk, os⟩ := s
  wp_walk using wpAny_loadPart' hl, wpAny_loadPart' hb
  have f1 := F.le1
  have f2 := F.le2
  have lt1 : i < items.size := by omega
  have lt2 : i < items2.size := by omega
  have o1 : items[((i : Nat) : Int).toNat]? = some items[i] := by simp [lt1]
  have o2 : items2[((i : Nat) : Int).toNat]? = some items2[i] := by simp [lt2]
  have hc : ((i : Int) + 1) = ((i + 1 : Nat) : Int) := by push_cast; rfl
  rw [o1, o2]
  refine wpAny_bind (F.same i lt1 lt2 (by omega) _ _ _ _ ?_)
  wp_walk
  rw [hc]
  exact ⟨plainId_quiet plain_eq_loop _, codeAny_builtin entry_eq_loop (by
   rw [Around.under_plainId plain_eq_loop _]
   exact ih (i + 1) (by omega) (by omega) A R _ hl hb F h)⟩
theorem zhC (l b : Addr) (items items2 : Array Value) (n n2 : Nat) (dd dd2 : Option Addr) (sl sl2 : Array (Option Value)) {c : Bool} {j : Nat} (A : Around) (R : Result → Shared → Prop) (s : Shared)
 (hl : s.heap.get? l = some { cls := .type "list", dict := dd, data := .seq items n, slots := sl }) (hb : s.heap.get? b = some { cls := .type "list", dict := dd2, data := .seq items2 n2, slots := sl2 })
 (F : FirstAt A.in1 s items items2 c j) (h : R (.ok (.ret (.bool c))) s) :
 wpAny (model P w) A.in1 (Builtin.«list.__lt__» ⟨[.ref l, .ref b], []⟩) (fun fin s' => match fin with | .done f => R (.ok f) s' | .again c' => c'.quiet = true ∧ codeAny (model P w) A c' R s') (fun e s' => R (.error e) s') s := by
 obtain ⟨hp, g, d, tk, os⟩ := s
 have f3 := AutoSeq1.sub_list_list
 wp_walk using wpAny_loadPart' hl, wpAny_loadPart' hb
 exact ⟨plainId_quiet plain_eq_loop _, codeAny_builtin entry_eq_loop (by
  rw [Around.under_plainId plain_eq_loop _]
  exact zfQ l b items items2 n n2 dd dd2 sl sl2 c j _ 0 rfl (Nat.zero_le _) A R _ hl hb F h)⟩
theorem zc9 {l b : Addr} {items items2 : Array Value} {c : Bool} {j : Nat} {A : Around} {s : Shared} {E : Value → Shared → Prop} {Q : Value → Shared → Prop} (hl : s.heap.IsList l items) (hb : s.heap.IsList b items2) (FA : FirstAt A.in1 s items items2 c j) (h : Q (.bool c) s) :
 wpAny (model P w) A (call (.builtin "list.__lt__") [.ref l, .ref b]) Q E s := by
 obtain ⟨⟨c1, dd, data, sl⟩, ho, hc, n, hd⟩ := id hl
 obtain ⟨⟨c2, dd2, data2, sl2⟩, ho2, hc2, n2, hd2⟩ := id hb
 simp only at hc hd hc2 hd2
 subst hc hd hc2 hd2
 refine wpAny_call (codeAny_call_builtin F.slot_list_lt.plain F.entry_list_lt (F.slot_list_lt.check _ _ _ _ _ _ _ _ ⟨_, ho, rfl⟩ (F.args_list_lt_2 _ _) ?_))
 exact zhC l b items items2 n n2 dd dd2 sl sl2 A (wants Q E) s ho ho2 FA h
theorem LtAt.lists {l b : Addr} {items items2 : Array Value} {c : Bool} {j : Nat} {A : Around} {s : Shared} (hl : s.heap.IsList l items) (hb : s.heap.IsList b items2) (hu : A.units < cLine) (FA : FirstAt A.in1 s items items2 c j) : LtAt A s (.ref l) (.ref b) c := by
 intro P w E Q h
 obtain ⟨o, ho, hc, _⟩ := id hl
 obtain ⟨o2, ho2, hc2, _⟩ := id hb
 exact wpAny_richCompare_same_room (op := .Lt) ⟨_, ho, hc⟩ ⟨_, ho2, hc2⟩ F.slot_list_lt (zc9 hl hb FA ⟨(fun x => nomatch x), h⟩) hu
theorem LtAt.tuples {l b : Addr} {items items2 : Array Value} {c : Bool} {j : Nat} {A : Around} {s : Shared} (hl : s.heap.IsTuple l items) (hb : s.heap.IsTuple b items2) (hu : A.units < cLine) (FA : FirstAt A.in1 s items items2 c j) : LtAt A s (.ref l) (.ref b) c := by
 intro P w E Q h
 obtain ⟨⟨c1, dd, data, sl⟩, ho, hc, n, hd⟩ := id hl
 obtain ⟨⟨c2, dd2, data2, sl2⟩, ho2, hc2, n2, hd2⟩ := id hb
 simp only at hc hd hc2 hd2
 subst hc hd hc2 hd2
 refine wpAny_richCompare_same_room (op := .Lt) ⟨_, ho, rfl⟩ ⟨_, ho2, rfl⟩ F.slot_tuple_lt (wpAny_call_entry F.slot_tuple_lt ⟨_, ho, rfl⟩ F.entry_tuple_lt ?_ (F.args_tuple_lt_2 _ _)) hu
 obtain ⟨hp, g, d, tk, os⟩ := s
 have f2 := AutoSeq1.sub_tuple_tuple
 have hZ : (items.toList.zip items2.toList).length = min items.size items2.size := by simp
 have f1 := FA.le1
 have f2' := FA.le2
 wp_walk using wpAny_loadPart' ho, wpAny_loadPart' ho2, wpAny_forIn_list _ (fun rest b s' => s' = ⟨hp, g, d, tk, os⟩ ∧ ((b.1 = none ∧ ∃ i, i ≤ j ∧ rest = (items.toList.zip items2.toList).drop i) ∨ (b.1 = some (PySem.Fin.done (.ret (.bool c))) ∧ rest = []))) _
 case turn =>
  rintro ⟨y, x⟩ rest b' s' ⟨rfl, ⟨hb', i, hij, hz⟩ | ⟨_, hz⟩⟩
  · have lt0 : i < (items.toList.zip items2.toList).length := by
     rcases Nat.lt_or_ge i (items.toList.zip items2.toList).length with h' | h'
     · exact h'
     · rw [List.drop_of_length_le h'] at hz; cases hz
    have h1 : i < items.size := by omega
    have h2 : i < items2.size := by omega
    rw [List.drop_eq_getElem_cons lt0] at hz
    injection hz with hyx hrest
    have hy : y = items[i] := by have := congrArg Prod.fst hyx; simpa using this
    have hx : x = items2[i] := by have := congrArg Prod.snd hyx; simpa using this
    subst hy hx
    rcases Nat.lt_or_ge i j with h3 | h3
    · refine wpAny_bind (FA.same i h1 h2 h3 _ _ _ _ ?_)
      wp_walk
      exact ⟨rfl, .inl ⟨rfl, i + 1, h3, hrest⟩⟩
    · obtain rfl : i = j := by omega
      rcases FA.fin with ⟨hs, hc⟩ | ⟨_, _, he, hlt⟩
      · omega
      · refine wpAny_bind (he _ _ _ _ ?_)
        simp only [Bool.not_false, if_true]
        refine wpAny_bind (wpAny_rule ?_)
        refine wpAny_bind (hlt _ _ _ _ ?_)
        wp_walk
        exact ⟨_, rfl, (fun x => nomatch x), h⟩
  · cases hz
 case fin =>
  rintro ⟨b1, b2⟩ s' ⟨rfl, ⟨hb', i, hij, hz⟩ | ⟨hb', _⟩⟩
  · simp only at hb'
    subst hb'
    wp_walk
    refine ⟨_, rfl, ?_⟩
    have hlen : (items.toList.zip items2.toList).length ≤ i := by
     rcases Nat.lt_or_ge i (items.toList.zip items2.toList).length with h' | h'
     · rw [List.drop_eq_getElem_cons h'] at hz; cases hz
     · exact h'
    rcases FA.fin with ⟨hs, hc⟩ | ⟨h1, h2, _, _⟩
    · have e : Builtin.Tuple.tupleCompareSizes .Lt items.size items2.size = Value.bool c := by rw [hc]; rfl
      rw [e]
      exact ⟨(fun x => nomatch x), h⟩
    · omega
  · simp only at hb'
    subst hb'
    wp_walk
    exact ⟨_, rfl, (fun x => nomatch x), h⟩
 case h => exact ⟨rfl, .inl ⟨rfl, 0, Nat.zero_le _, rfl⟩⟩
end
theorem LtAt.ints {A : Around} {s : Shared} (a b : Int) (t u : Tok) : LtAt A s (.int a t) (.int b u) (decide (a < b)) := fun P w E Q h => by
 exact (wpAny_lt_int (prog := P) (w := w) (A := A) (E := E) (t := t) (u := u) h)
theorem LtAt.bools {A : Around} {s : Shared} (a b : Bool) : LtAt A s (.bool a) (.bool b) (!a && b) := fun P w E Q h => by
 refine lt_bool (p := a) (q := b) (prog := P) (w := w) (A := A) (E := E) ?_
 cases a <;> cases b <;> exact h
theorem LtAt.strs {A : Around} {s : Shared} (a b : Str) (t u : Tok) : LtAt A s (.str a t) (.str b u) (decide (a.cps.toList < b.cps.toList)) := fun P w E Q h => by
 exact lt_str (x := a) (y := b) (t := t) (u := u) (prog := P) (w := w) (A := A) (E := E) h
mutual
def pyLt : PD → PD → Bool
 | .bl a, .bl b => !a && b
 | .int a, .int b => decide (a < b)
 | .str a, .str b => decide (a.cps.toList < b.cps.toList)
 | .lst xs, .lst ys => zaZ xs ys
 | .tup xs, .tup ys => zaZ xs ys
 | _, _ => false
def zaZ : List PD → List PD → Bool
 | [], [] => false
 | [], _ :: _ => true
 | _ :: _, [] => false
 | x :: xs, y :: ys => if pyEq x y = true then zaZ xs ys else pyLt x y
end
mutual
def ltOk : PD → PD → Bool
 | .bl _, .bl _ => true
 | .int _, .int _ => true
 | .str _, .str _ => true
 | .lst xs, .lst ys => zbl xs ys
 | .tup xs, .tup ys => zbl xs ys
 | _, _ => false
def zbl : List PD → List PD → Bool
 | x :: xs, y :: ys => if pyEq x y = true then zbl xs ys else ltOk x y
 | _, _ => true
end
section
variable {X : Cx} {pins : List (Addr × Obj)} {σ : St} {H : Hp} {s : Shared}
mutual
theorem ziN (I : Inv X pins σ H s) : ∀ (A : Around) (d e : PD) (v w : V) (u y : Value), Rep X.K H d v → Rep X.K H e w → RelV v u → RelV w y → A.units + zay d < cLine → ltOk d e = true → LtAt A s u y (pyLt d e)
 | A, .bl c, .bl b, v, w, u, y, h, h', r, r', z, ok => by
  rw [Rep] at h h'; subst h h'
  cases r; cases r'
  rw [pyLt]
  exact LtAt.bools c b
 | A, .int c, .int b, v, w, u, y, h, h', r, r', z, ok => by
  rw [Rep] at h h'; subst h h'
  obtain ⟨t, rfl⟩ := r
  obtain ⟨t', rfl⟩ := r'
  rw [pyLt]
  exact LtAt.ints c b t t'
 | A, .str c, .str b, v, w, u, y, h, h', r, r', z, ok => by
  rw [Rep] at h h'; subst h h'
  obtain ⟨t, rfl⟩ := r
  obtain ⟨t', rfl⟩ := r'
  rw [pyLt]
  exact LtAt.strs c b t t'
 | A, .lst ds, .lst es, v, w, u, y, h, h', r, r', z, ok => by
  rw [Rep] at h h'
  obtain ⟨a, xs, rfl, q, qs⟩ := h
  obtain ⟨b, ys, rfl, q', qs'⟩ := h'
  cases r; cases r'
  obtain ⟨its, rv, p, _⟩ := I.list q
  obtain ⟨its', rv', p', _⟩ := I.list q'
  rw [zay] at z
  rw [pyLt]
  rw [ltOk] at ok
  obtain ⟨j, F⟩ := zcb I A.in1 ds es xs ys its its' qs qs' rv rv' (by rw [Around.in1_units]; omega) ok
  exact LtAt.lists p.isList p'.isList (by omega) F
 | A, .tup ds, .tup es, v, w, u, y, h, h', r, r', z, ok => by
  rw [Rep] at h h'
  obtain ⟨a, xs, rfl, q, qs⟩ := h
  obtain ⟨b, ys, rfl, q', qs'⟩ := h'
  cases r; cases r'
  obtain ⟨its, rv, p, _⟩ := I.tuple q
  obtain ⟨its', rv', p', _⟩ := I.tuple q'
  rw [zay] at z
  rw [pyLt]
  rw [ltOk] at ok
  obtain ⟨j, F⟩ := zcb I A.in1 ds es xs ys its its' qs qs' rv rv' (by rw [Around.in1_units]; omega) ok
  exact LtAt.tuples p p' (by omega) F
 | A, .non, e, v, w, u, y, h, h', r, r', z, ok => by cases e <;> simp [ltOk] at ok
 | A, .bl _, .non, v, w, u, y, h, h', r, r', z, ok => by simp [ltOk] at ok
 | A, .bl _, .int _, v, w, u, y, h, h', r, r', z, ok => by simp [ltOk] at ok
 | A, .bl _, .str _, v, w, u, y, h, h', r, r', z, ok => by simp [ltOk] at ok
 | A, .bl _, .lst _, v, w, u, y, h, h', r, r', z, ok => by simp [ltOk] at ok
 | A, .bl _, .tup _, v, w, u, y, h, h', r, r', z, ok => by simp [ltOk] at ok
 | A, .int _, .non, v, w, u, y, h, h', r, r', z, ok => by simp [ltOk] at ok
 | A, .int _, .bl _, v, w, u, y, h, h', r, r', z, ok => by simp [ltOk] at ok
 | A, .int _, .str _, v, w, u, y, h, h', r, r', z, ok => by simp [ltOk] at ok
 | A, .int _, .lst _, v, w, u, y, h, h', r, r', z, ok => by simp [ltOk] at ok
 | A, .int _, .tup _, v, w, u, y, h, h', r, r', z, ok => by simp [ltOk] at ok
 | A, .str _, .non, v, w, u, y, h, h', r, r', z, ok => by simp [ltOk] at ok
 | A, .str _, .bl _, v, w, u, y, h, h', r, r', z, ok => by simp [ltOk] at ok
 | A, .str _, .int _, v, w, u, y, h, h', r, r', z, ok => by simp [ltOk] at ok
 | A, .str _, .lst _, v, w, u, y, h, h', r, r', z, ok => by simp [ltOk] at ok
 | A, .str _, .tup _, v, w, u, y, h, h', r, r', z, ok => by simp [ltOk] at ok
 | A, .lst _, .non, v, w, u, y, h, h', r, r', z, ok => by simp [ltOk] at ok
 | A, .lst _, .bl _, v, w, u, y, h, h', r, r', z, ok => by simp [ltOk] at ok
 | A, .lst _, .int _, v, w, u, y, h, h', r, r', z, ok => by simp [ltOk] at ok
 | A, .lst _, .str _, v, w, u, y, h, h', r, r', z, ok => by simp [ltOk] at ok
 | A, .lst _, .tup _, v, w, u, y, h, h', r, r', z, ok => by simp [ltOk] at ok
 | A, .tup _, .non, v, w, u, y, h, h', r, r', z, ok => by simp [ltOk] at ok
 | A, .tup _, .bl _, v, w, u, y, h, h', r, r', z, ok => by simp [ltOk] at ok
 | A, .tup _, .int _, v, w, u, y, h, h', r, r', z, ok => by simp [ltOk] at ok
 | A, .tup _, .str _, v, w, u, y, h, h', r, r', z, ok => by simp [ltOk] at ok
 | A, .tup _, .lst _, v, w, u, y, h, h', r, r', z, ok => by simp [ltOk] at ok
theorem zcb (I : Inv X pins σ H s) : ∀ (A : Around) (ds es : List PD) (vs ws : List V) (us ys : List Value), Reps X.K H ds vs → Reps X.K H es ws → Vals vs us → Vals ws ys → A.units + zaz ds < cLine → zbl ds es = true →
 ∃ j, FirstAt A s us.toArray ys.toArray (zaZ ds es) j
 | A, [], es, vs, ws, us, ys, h, h', r, r', z, ok => by
  rw [Reps] at h; subst h; cases r
  have l1 := h'.length
  have l2 := r'.length
  refine ⟨0, Nat.zero_le _, Nat.zero_le _, fun i h1 h2 h3 => absurd h3 (Nat.not_lt_zero _), .inl ⟨.inl (by simp), ?_⟩⟩
  cases es with
  | nil =>
   rw [zaZ]
   rw [Reps] at h'
   subst h'
   cases r'
   rfl
  | cons e es => rw [zaZ]; simp at l1 l2; simp; omega
 | A, d :: ds, [], vs, ws, us, ys, h, h', r, r', z, ok => by
  rw [Reps] at h'; subst h'; cases r'
  refine ⟨0, Nat.zero_le _, Nat.zero_le _, fun i h1 h2 h3 => absurd h3 (Nat.not_lt_zero _), .inl ⟨.inr (by simp), ?_⟩⟩
  rw [zaZ]
  simp
 | A, d :: ds, e :: es, vs, ws, us, ys, h, h', r, r', z, ok => by
  rw [Reps] at h h'
  obtain ⟨x, vr, rfl, g1, g2⟩ := h
  obtain ⟨x', vr', rfl, g1', g2'⟩ := h'
  cases r with
  | @cons _ u1 _ ur ra rb =>
   cases r' with
   | @cons _ y1 _ yr ra' rb' =>
    rw [zaz] at z
    rw [zbl] at ok
    have he := zbT I A d e x x' _ _ g1 g1' ra ra' (by omega)
    rw [zaZ]
    by_cases hq : pyEq d e = true
    · rw [if_pos hq] at ok ⊢
      rw [hq] at he
      obtain ⟨j, F⟩ := zcb I A ds es vr vr' _ _ g2 g2' rb rb' (by omega) ok
      have f1 := F.le1
      have f2 := F.le2
      have f3 := F.same
      have f4 := F.fin
      simp only [List.size_toArray] at f1 f2 f3 f4
      refine ⟨j + 1, by simpa using f1, by simpa using f2, fun i h1 h2 h3 => ?_, ?_⟩
      · cases i with
        | zero => exact he
        | succ i => simpa using f3 i (by simpa using h1) (by simpa using h2) (by omega)
      · rcases f4 with ⟨hs, hc⟩ | ⟨h1, h2, k1, k2⟩
        · refine .inl ⟨by simpa using hs, ?_⟩
          rw [hc]
          simp
        · exact .inr ⟨by simpa using h1, by simpa using h2, by simpa using k1, by simpa using k2⟩
    · rw [if_neg hq] at ok ⊢
      rw [Bool.not_eq_true] at hq
      rw [hq] at he
      have zz : A.units + zay d < cLine := by omega
      exact ⟨0, Nat.zero_le _, Nat.zero_le _, fun i h1 h2 h3 => absurd h3 (Nat.not_lt_zero _), .inr ⟨by simp, by simp, he, ziN I A d e x x' _ _ g1 g1' ra ra' zz ok⟩⟩
end
end
end L2
namespace L2
open PySem PySem.Spec PyProof.Rows PySem.W
section
variable {X : Cx} {pins : List (Addr × Obj)} {σ : St} {H : Hp} {s : Shared} {a : Addr} {o : HO}
theorem Inv.track7 (I : Inv X pins σ H s) (hn : FpOk X pins H a) (h0 : X.s₀.heap.get? a = none) (new : ObjOk X.prog X.w (upd H a o) s.heap a o) : Inv X pins σ (upd H a o) s := by
 obtain ⟨hn, hl, _, _, hc, hp⟩ := hn
 refine ⟨I.ok, I.os, I.bare, ⟨I.base.keep, I.base.slot, fun b ob q n hx => ?_, I.base.there, fun b xs q => ?_, fun b ob u q => ?_, fun b ps q => ?_⟩, I.loc, I.cell, ?_, fun x c e => ?_, fun p hp' => ?_, fun b u q => ?_, I.len⟩
 · have : b ≠ a := fun z => by rw [z, h0] at q; cases q
   rw [zak this]
   exact I.base.free b ob q n hx
 · have := I.base.tups b xs q
   rw [zak (zam this hn)]
   exact this
 · have := I.base.frzs b ob u q
   rw [zak (zam this hn)]
   exact this
 · obtain ⟨m, this⟩ := I.base.tbls b ps q
   exact ⟨m, by rw [zak (zam this hn)]; exact this⟩
 · rw [zak hl.symm]; exact I.free
 · rw [zak (hc x c e)]; exact I.freeC x c e
 · obtain ⟨e, n, r⟩ := I.pin p hp'
   exact ⟨e, by rw [zak (hp p hp')]; exact n, r⟩
 · by_cases hb : b = a
   · subst hb
     rw [zad] at q
     cases q
     exact new
   · rw [zak hb] at q
     exact (I.hok b u q).stay (fun c v _ r => r) (fun c r => by rw [zak (zam r hn)]; exact r) fun c xs r => by rw [zak (zam r hn)]; exact r
mutual
theorem Rep.same {K : PySem.W.Frag} {H H' : Hp} (h : Same H H') : ∀ (d : PD) (v : V), Rep K H d v → Rep K H' d v
 | .non, v, q => by rw [Rep] at q ⊢; exact q
 | .bl _, v, q => by rw [Rep] at q ⊢; exact q
 | .int _, v, q => by rw [Rep] at q ⊢; exact q
 | .str _, v, q => by rw [Rep] at q ⊢; exact q
 | .lst ds, v, q => by
  rw [Rep] at q ⊢
  obtain ⟨a, xs, rfl, q1, q2⟩ := q
  exact ⟨a, xs, rfl, h.seq q1, Reps.same h ds xs q2⟩
 | .tup ds, v, q => by
  rw [Rep] at q ⊢
  obtain ⟨a, xs, rfl, q1, q2⟩ := q
  exact ⟨a, xs, rfl, h.seqT q1, Reps.same h ds xs q2⟩
theorem Reps.same {K : PySem.W.Frag} {H H' : Hp} (h : Same H H') : ∀ (ds : List PD) (vs : List V), Reps K H ds vs → Reps K H' ds vs
 | [], vs, q => by rw [Reps] at q ⊢; exact q
 | d :: ds, vs, q => by
  rw [Reps] at q ⊢
  obtain ⟨x, r, e, q1, q2⟩ := q
  exact ⟨x, r, e, Rep.same h d x q1, Reps.same h ds r q2⟩
end
theorem zgD {prog : Program} {w : World} {A : Around} {E : Value → Shared → Prop} {l b : Addr} {items items2 : Array Value} {c : Bool} {j : Nat} {Q : Bool → Shared → Prop} (hl : s.heap.IsList l items) (hb : s.heap.IsList b items2) (hu : A.units < cLine) (FA : FirstAt A.in1 s items items2 c j) (h : Q c s) :
 wpAny (model prog w) A (keyLt' oneType' (.ref l) (.ref b)) Q E s := by
 obtain ⟨o, ho, hc, _⟩ := id hl
 rw [keyLt'_oneType, oneLt'_eq]
 simp only [if_true]
 refine wpAny_bind (wpAny_cRoomFor hu ?_)
 refine wpAny_bind (wpAny_callSpecialIfBound?_slot ⟨o, ho, hc⟩ F.slot_list_lt (zc9 hl hb FA ?_))
 exact wpAny_truthy_bool h
theorem zgK {M : Model} {h : Heap} {l : Addr} {items : Array Value} (hl : h.IsList l items) : Looks M h (typeOf (.ref l)) (.type "list") := by
 obtain ⟨o, ho, hc, _⟩ := hl
 rw [← hc]
 exact (Looks.ld ho).andThen .now
end
end L2
namespace L2
open PySem PySem.Spec PyProof.Rows PySem.W
abbrev Cx.in2 (X : Cx) : Cx := { X with A := X.A.in1.in1, xe := fun _ _ => False }
section
variable {X : Cx} {pins : List (Addr × Obj)} {σ : St} {H : Hp} {s : Shared}
theorem Cx.Ok.in2 (ok : X.Ok) : X.in2.Ok := ⟨ok.mod, ok.kind, ok.glob, ok.blt, ok.above, ok.inj, ok.has, ok.cab, ok.hd, ok.frames, ok.stk, ok.exf, ok.bs, ok.bsz, ok.noex, ok.exfs, ok.funs, ok.frf⟩
theorem Inv.in2 (I : Inv X pins σ H s) : Inv X.in2 pins σ H s := ⟨I.ok.in2, I.os, I.bare, I.base, I.loc, I.cell, I.free, I.freeC, I.pin, I.hok, I.len⟩
theorem Inv.out2 (ok : X.Ok) (I : Inv X.in2 pins σ H s) : Inv X pins σ H s := ⟨ok, I.os, I.bare, I.base, I.loc, I.cell, I.free, I.freeC, I.pin, I.hok, I.len⟩
def eqR (ps : List (Addr × PD)) (d : PD) : Value → Bool
 | .ref a => (ps.find? fun p => decide (p.1 = a)).any fun p => pyEq p.2 d
 | _ => false
end
end L2
namespace L2
open PySem PySem.Spec PyProof.Rows
def zbJ : Bool → Keyed → Array Keyed → Nat → Nat → Nat → StateT SortSt Sem (Option Nat) := sortPriv% PySem.Builtin.gallop
theorem zgO (left : Bool) (key : Keyed) (arr : Array Keyed) (base n hint : Nat) : zbJ left key arr base n hint = (do
 let beyond (i : Nat) : StateT SortSt Sem (Option Bool) := do
  let x ← elem' arr (base + i)
  if left then lt' x key else return (← lt' key x).map (!·)
 let mut lastofs := 0
 let mut ofs := 1
 let mut lo := 0
 let mut hi := 0
 let some right ← beyond hint | return none
 if right then
  let maxofs := n - hint
  for _ in [0:n] do
   if ofs ≥ maxofs then break
   let some more ← beyond (hint + ofs) | return none
   if !more then break
   lastofs := ofs
   ofs := 2 * ofs + 1
  lo := hint + lastofs + 1
  hi := hint + min ofs maxofs
 else
  let maxofs := hint + 1
  for _ in [0:n] do
   if ofs ≥ maxofs then break
   let some found ← beyond (hint - ofs) | return none
   if found then break
   lastofs := ofs
   ofs := 2 * ofs + 1
  lo := hint + 1 - min ofs maxofs
  hi := hint - lastofs
 for _ in [0:n] do
  if lo ≥ hi then break
  let m := lo + (hi - lo) / 2
  let some more ← beyond m | return none
  if more then lo := m + 1 else hi := m
 return some hi) := rfl
section
variable {prog : Program} {w : World} {A : Around} {E : Value → Shared → Prop} {s : Shared}
structure Cut (B : Nat → Bool) (n k : Nat) : Prop where
 le : k ≤ n
 yes : ∀ i, i < k → B i = true
 no : ∀ i, k ≤ i → i < n → B i = false
theorem zjk {left : Bool} {key : Keyed} {arr : Array Keyed} {base n : Nat} {st : SortSt} {Q : Option Nat → SortSt → Prop} (B : Nat → Bool)
 (hask : ∀ i, i < n → ∀ Q' : Option Bool → SortSt → Prop, Q' (some (B i)) st → wpS (model prog w) A E s (do
  let x ← elem' arr (base + i)
  if left then lt' x key else return (← lt' key x).map (!·)) Q' st)
 (hanti : ∀ i j, i < j → j < n → B j = true → B i = true) (lo0 hi0 : Nat) (h1 : lo0 ≤ hi0) (h2 : hi0 ≤ n) (hy : ∀ i, i < lo0 → B i = true) (hn : ∀ i, hi0 ≤ i → i < n → B i = false)
 (q : ∀ k, Cut B n k → Q (some k) st) : wpS (model prog w) A E s (do
  let beyond (i : Nat) : StateT SortSt Sem (Option Bool) := do
   let x ← elem' arr (base + i)
   if left then lt' x key else return (← lt' key x).map (!·)
  let mut lo := lo0
  let mut hi := hi0
  for _ in [0:n] do
   if lo ≥ hi then break
   let m := lo + (hi - lo) / 2
   let some more ← beyond m | return none
   if more then lo := m + 1 else hi := m
  return some hi) Q st := by
 dsimp only
 refine wpS_bind (wpS_mono (wpS_forRange
  (I := fun x c st' => st' = st ∧ ∃ lo hi, c = (none, lo, hi) ∧ lo ≤ hi ∧ hi ≤ n ∧ (∀ i, i < lo → B i = true) ∧ (∀ i, hi ≤ i → i < n → B i = false) ∧ hi - lo + x ≤ n)
  (Q := fun c st' => st' = st ∧ ∃ k, c = (none, k, k) ∧ Cut B n k) ?step ?fin ⟨rfl, lo0, hi0, rfl, h1, h2, hy, hn, by omega⟩) ?post)
 case step =>
  rintro i c st' _ hi ⟨rfl, lo, hi', rfl, a1, a2, a3, a4, a5⟩
  dsimp only
  by_cases h : lo ≥ hi'
  · rw [if_pos h]
    obtain rfl : lo = hi' := by omega
    exact wpS_pure ⟨rfl, lo, rfl, a2, a3, a4⟩
  · rw [if_neg h]
    refine wpS_bind (hask _ (by omega) _ ?_)
    dsimp only
    cases hb : B (lo + (hi' - lo) / 2) with
    | true =>
     rw [if_pos rfl]
     refine wpS_pure ⟨rfl, _, _, rfl, by omega, a2, fun j hj => ?_, a4, by omega⟩
     rcases Nat.lt_or_ge j (lo + (hi' - lo) / 2) with z | z
     · exact hanti _ _ z (by omega) hb
     · rw [show j = lo + (hi' - lo) / 2 by omega]; exact hb
    | false =>
     rw [if_neg (by simp)]
     refine wpS_pure ⟨rfl, _, _, rfl, by omega, by omega, a3, fun j hj hjn => ?_, by omega⟩
     cases e : B j with
     | false => rfl
     | true =>
      rcases Nat.lt_or_ge (lo + (hi' - lo) / 2) j with z | z
      · rw [hanti _ _ z hjn e] at hb; cases hb
      · rw [show j = lo + (hi' - lo) / 2 by omega, hb] at e; cases e
 case fin =>
  rintro c st' ⟨rfl, lo, hi', rfl, a1, a2, a3, a4, a5⟩
  obtain rfl : lo = hi' := by omega
  exact ⟨rfl, lo, rfl, a2, a3, a4⟩
 case post =>
  rintro c st' ⟨rfl, k, rfl, hk⟩
  dsimp only
  exact wpS_pure (q k hk)
theorem zeY {left : Bool} {key : Keyed} {arr : Array Keyed} {base n hint : Nat} {st : SortSt} {Q : Option Nat → SortSt → Prop} (B : Nat → Bool)
 (hask : ∀ i, i < n → ∀ Q' : Option Bool → SortSt → Prop, Q' (some (B i)) st → wpS (model prog w) A E s (do
  let x ← elem' arr (base + i)
  if left then lt' x key else return (← lt' key x).map (!·)) Q' st)
 (hanti : ∀ i j, i < j → j < n → B j = true → B i = true) (hh : hint < n) (q : ∀ k, Cut B n k → Q (some k) st) : wpS (model prog w) A E s (zbJ left key arr base n hint) Q st := by
 rw [zgO]
 dsimp only
 refine wpS_bind (hask hint hh _ ?_)
 dsimp only
 have anti0 : ∀ {i j : Nat}, i ≤ j → j < n → B j = true → B i = true := fun {i j} h1 h2 h3 => by
  rcases Nat.lt_or_ge i j with z | z
  · exact hanti i j z h2 h3
  · rw [show i = j by omega]; exact h3
 have antif : ∀ {i j : Nat}, i ≤ j → j < n → B i = false → B j = false := fun {i j} h1 h2 h3 => by
  cases e : B j with
  | false => rfl
  | true => rw [anti0 h1 h2 e] at h3; cases h3
 cases hb : B hint with
 | true =>
  rw [if_pos rfl]
  refine wpS_bind (wpS_mono (wpS_forRange
   (I := fun x c st' => st' = st ∧ ∃ la o, c = (none, la, o) ∧ B (hint + la) = true ∧ la < o ∧ hint + la < n ∧ x + 1 ≤ o)
   (Q := fun c st' => st' = st ∧ ∃ la o, c = (none, la, o) ∧ B (hint + la) = true ∧ la < o ∧ hint + la < n ∧ (n - hint ≤ o ∨ B (hint + o) = false)) ?step ?fin ⟨rfl, 0, 1, rfl, hb, by omega, by omega, by omega⟩) ?post)
  case step =>
   rintro i c st' _ hi ⟨rfl, la, o, rfl, a1, a2, a3, a4⟩
   dsimp only
   by_cases h : o ≥ n - hint
   · rw [if_pos h]
     exact wpS_pure ⟨rfl, la, o, rfl, a1, a2, a3, .inl h⟩
   · rw [if_neg h]
     refine wpS_bind (hask _ (by omega) _ ?_)
     dsimp only
     cases hc : B (hint + o) with
     | true =>
      rw [if_neg (by simp)]
      exact wpS_pure ⟨rfl, o, _, rfl, hc, by omega, by omega, by omega⟩
     | false =>
      rw [if_pos (by simp)]
      exact wpS_pure ⟨rfl, la, o, rfl, a1, a2, a3, .inr hc⟩
  case fin =>
   rintro c st' ⟨rfl, la, o, rfl, a1, a2, a3, a4⟩
   exact ⟨rfl, la, o, rfl, a1, a2, a3, .inl (by omega)⟩
  case post =>
   rintro c st' ⟨rfl, la, o, rfl, a1, a2, a3, a4⟩
   dsimp only
   refine zjk B hask hanti _ _ (by omega) (by omega) (fun i hi => anti0 (show i ≤ hint + la by omega) a3 a1) (fun i hi hin => ?_) q
   rcases a4 with z | z
   · omega
   · rcases Nat.lt_or_ge o (n - hint) with y | y
     · exact antif (show hint + o ≤ i by omega) hin z
     · omega
 | false =>
  rw [if_neg (by simp)]
  refine wpS_bind (wpS_mono (wpS_forRange
   (I := fun x c st' => st' = st ∧ ∃ la o, c = (none, la, o) ∧ B (hint - la) = false ∧ la < o ∧ la ≤ hint ∧ x + 1 ≤ o)
   (Q := fun c st' => st' = st ∧ ∃ la o, c = (none, la, o) ∧ B (hint - la) = false ∧ la < o ∧ la ≤ hint ∧ (hint + 1 ≤ o ∨ (o ≤ hint ∧ B (hint - o) = true))) ?step2 ?fin2 ⟨rfl, 0, 1, rfl, hb, by omega, by omega, by omega⟩) ?post2)
  case step2 =>
   rintro i c st' _ hi ⟨rfl, la, o, rfl, a1, a2, a3, a4⟩
   dsimp only
   by_cases h : o ≥ hint + 1
   · rw [if_pos h]
     exact wpS_pure ⟨rfl, la, o, rfl, a1, a2, a3, .inl h⟩
   · rw [if_neg h]
     refine wpS_bind (hask _ (by omega) _ ?_)
     dsimp only
     cases hc : B (hint - o) with
     | false =>
      rw [if_neg (by simp)]
      exact wpS_pure ⟨rfl, o, _, rfl, hc, by omega, by omega, by omega⟩
     | true =>
      rw [if_pos rfl]
      exact wpS_pure ⟨rfl, la, o, rfl, a1, a2, a3, .inr ⟨by omega, hc⟩⟩
  case fin2 =>
   rintro c st' ⟨rfl, la, o, rfl, a1, a2, a3, a4⟩
   exact ⟨rfl, la, o, rfl, a1, a2, a3, .inl (by omega)⟩
  case post2 =>
   rintro c st' ⟨rfl, la, o, rfl, a1, a2, a3, a4⟩
   dsimp only
   refine zjk B hask hanti _ _ (by omega) (by omega) (fun i hi => ?_) (fun i hi hin => antif (show hint - la ≤ i by omega) hin a1) q
   rcases a4 with z | ⟨z, y⟩
   · omega
   · exact anti0 (show i ≤ hint - o by omega) (by omega) y
end
section
variable {α : Type} {L : α → α → Bool}
structure LOrd (L : α → α → Bool) : Prop where
 asym : ∀ x y, L x y = true → L y x = false
 ntr : ∀ x y z, L x y = false → L y z = false → L x z = false
theorem LOrd.irr (O : LOrd L) (x : α) : L x x = false := by
 cases h : L x x with
 | false => rfl
 | true => rw [O.asym x x h] at h; cases h
abbrev SrtL (L : α → α → Bool) (l : List α) : Prop := l.Pairwise fun x y => L y x = false
structure MInv (L : α → α → Bool) (a b out : List α) (ia ib : Nat) : Prop where
 perm : (out ++ (a.drop ia ++ b.drop ib)).Perm (a ++ b)
 srt : SrtL L out
 le : ∀ x ∈ out, ∀ y ∈ a.drop ia ++ b.drop ib, L y x = false
variable {a b out : List α} {ia ib k : Nat}
theorem zaV {l m : List α} (h1 : SrtL L l) (h2 : SrtL L m) (h : ∀ x ∈ l, ∀ y ∈ m, L y x = false) : SrtL L (l ++ m) := List.pairwise_append.mpr ⟨h1, h2, h⟩
theorem MInv.takeA (I : MInv L a b out ia ib) (sa : SrtL L a) (h : ∀ x ∈ (a.drop ia).take k, ∀ y ∈ b.drop ib, L y x = false) : MInv L a b (out ++ (a.drop ia).take k) (ia + k) ib := by
 have e : a.drop ia = (a.drop ia).take k ++ a.drop (ia + k) := by rw [← List.drop_drop, List.take_append_drop]
 have sd : SrtL L (a.drop ia) := sa.sublist (List.drop_sublist _ _)
 refine ⟨?_, ?_, ?_⟩
 · refine List.Perm.trans ?_ I.perm
   conv => rhs; rw [e]
   simp only [List.append_assoc]
   exact List.Perm.refl _
 · refine zaV I.srt (sd.sublist (List.take_sublist _ _)) fun x hx y hy => I.le x hx y (List.mem_append_left _ (List.mem_of_mem_take hy))
 · intro x hx y hy
   rcases List.mem_append.mp hx with hx | hx
   · refine I.le x hx y ?_
     rcases List.mem_append.mp hy with hy | hy
     · rw [e]; exact List.mem_append_left _ (List.mem_append_right _ hy)
     · exact List.mem_append_right _ hy
   · rcases List.mem_append.mp hy with hy | hy
     · rw [e] at sd
       exact (List.pairwise_append.mp sd).2.2 x hx y hy
     · exact h x hx y hy
theorem MInv.takeB (I : MInv L a b out ia ib) (sb : SrtL L b) (h : ∀ x ∈ (b.drop ib).take k, ∀ y ∈ a.drop ia, L y x = false) : MInv L a b (out ++ (b.drop ib).take k) ia (ib + k) := by
 have e : b.drop ib = (b.drop ib).take k ++ b.drop (ib + k) := by rw [← List.drop_drop, List.take_append_drop]
 have sd : SrtL L (b.drop ib) := sb.sublist (List.drop_sublist _ _)
 refine ⟨?_, ?_, ?_⟩
 · refine List.Perm.trans ?_ I.perm
   conv => rhs; rw [e]
   simp only [List.append_assoc]
   refine List.Perm.append_left out ?_
   rw [← List.append_assoc, ← List.append_assoc]
   exact List.Perm.append_right _ List.perm_append_comm
 · refine zaV I.srt (sd.sublist (List.take_sublist _ _)) fun x hx y hy => I.le x hx y (List.mem_append_right _ (List.mem_of_mem_take hy))
 · intro x hx y hy
   rcases List.mem_append.mp hx with hx | hx
   · refine I.le x hx y ?_
     rcases List.mem_append.mp hy with hy | hy
     · exact List.mem_append_left _ hy
     · rw [e]; exact List.mem_append_right _ (List.mem_append_right _ hy)
   · rcases List.mem_append.mp hy with hy | hy
     · exact h x hx y hy
     · rw [e] at sd
       exact (List.pairwise_append.mp sd).2.2 x hx y hy
theorem zbU {l : List α} {i : Nat} {x : α} (h : l[i]? = some x) : (l.drop i).take 1 = [x] := by
 obtain ⟨hi, e⟩ := List.getElem?_eq_some_iff.mp h
 rw [List.drop_eq_getElem_cons hi, e]
 rfl
theorem MInv.pushA (I : MInv L a b out ia ib) (sa : SrtL L a) {x : α} (hx : a[ia]? = some x) (h : ∀ y ∈ b.drop ib, L y x = false) : MInv L a b (out ++ [x]) (ia + 1) ib := by
 have := I.takeA (k := 1) sa (by rw [zbU hx]; intro z hz; rw [List.mem_singleton.mp hz]; exact h)
 rw [zbU hx] at this
 exact this
theorem MInv.pushB (I : MInv L a b out ia ib) (sb : SrtL L b) {x : α} (hx : b[ib]? = some x) (h : ∀ y ∈ a.drop ia, L y x = false) : MInv L a b (out ++ [x]) ia (ib + 1) := by
 have := I.takeB (k := 1) sb (by rw [zbU hx]; intro z hz; rw [List.mem_singleton.mp hz]; exact h)
 rw [zbU hx] at this
 exact this
theorem MInv.done1 (I : MInv L a b out ia ib) (sa : SrtL L a) (h : ib = b.length) : (out ++ a.drop ia ++ b.drop ib).Perm (a ++ b) ∧ SrtL L (out ++ a.drop ia ++ b.drop ib) := by
 refine ⟨by rw [List.append_assoc]; exact I.perm, ?_⟩
 rw [h, List.drop_length, List.append_nil]
 exact zaV I.srt (sa.sublist (List.drop_sublist _ _)) fun x hx y hy => I.le x hx y (List.mem_append_left _ hy)
theorem MInv.done2 (I : MInv L a b out ia ib) (sb : SrtL L b) (h : ia = a.length) : (out ++ a.drop ia ++ b.drop ib).Perm (a ++ b) ∧ SrtL L (out ++ a.drop ia ++ b.drop ib) := by
 refine ⟨by rw [List.append_assoc]; exact I.perm, ?_⟩
 rw [h, List.drop_length, List.append_nil]
 exact zaV I.srt (sb.sublist (List.drop_sublist _ _)) fun x hx y hy => I.le x hx y (List.mem_append_right _ hy)
theorem MInv.last (I : MInv L a b out ia ib) (sb : SrtL L b) {z : α} (hz : a.drop ia = [z]) (h : ∀ y ∈ b, L z y = false) : (out ++ b.drop ib ++ a.drop ia).Perm (a ++ b) ∧ SrtL L (out ++ b.drop ib ++ a.drop ia) := by
 refine ⟨?_, ?_⟩
 · refine List.Perm.trans ?_ I.perm
   rw [List.append_assoc]
   exact List.Perm.append_left out List.perm_append_comm
 · rw [hz]
   refine zaV (zaV I.srt (sb.sublist (List.drop_sublist _ _)) fun x hx y hy => I.le x hx y (List.mem_append_right _ hy)) (by simp) fun x hx y hy => ?_
   rw [List.mem_singleton.mp hy]
   rcases List.mem_append.mp hx with hx | hx
   · exact I.le x hx z (List.mem_append_left _ (by rw [hz]; simp))
   · exact h x (List.mem_of_mem_drop hx)
end
def zaK : Nat → StateT SortSt Sem Unit := sortPriv% PySem.Builtin.setMinGallop
theorem zdd (g : Nat) : zaK g = modify fun s => SortSt.mk' (kindOf s) (arrOf s) (pendingOf s) g (failedOf s) := rfl
def zej : Array Keyed → Array Keyed → StateT SortSt Sem (Array Keyed) := sortPriv% PySem.Builtin.mergeLo
theorem zfN (a b : Array Keyed) : zej a b = (do
 rule "list.sort.merge-lo"
 let total := a.size + b.size
 let done (out : Array Keyed) (ia ib : Nat) := out ++ a.extract ia a.size ++ b.extract ib b.size
 let lastOfA (out : Array Keyed) (ia ib : Nat) := out ++ b.extract ib b.size ++ a.extract ia a.size
 let mut out : Array Keyed := #[← elem' b 0]
 let mut ia := 0
 let mut ib := 1
 if ib == b.size then return done out ia ib
 if ia + 1 == a.size then return lastOfA out ia ib
 let mut minGallop := gallopOf (← get)
 for _ in [0:total] do
  let mut acount := 0
  let mut bcount := 0
  for _ in [0:total] do
   let some bWins ← lt' (← elem' b ib) (← elem' a ia) | return done out ia ib
   if bWins then
    out := out.push (← elem' b ib); ib := ib + 1; bcount := bcount + 1; acount := 0
    if ib == b.size then return done out ia ib
    if bcount ≥ minGallop then break
   else
    out := out.push (← elem' a ia); ia := ia + 1; acount := acount + 1; bcount := 0
    if ia + 1 == a.size then return lastOfA out ia ib
    if acount ≥ minGallop then break
  rule "list.sort.gallop"
  minGallop := minGallop + 1
  for _ in [0:total] do
   if minGallop > 1 then minGallop := minGallop - 1
   zaK minGallop
   let some k ← zbJ false (← elem' b ib) a ia (a.size - ia) 0 | return done out ia ib
   acount := k
   if k > 0 then
    out := out ++ a.extract ia (ia + k); ia := ia + k
    if ia + 1 == a.size then return lastOfA out ia ib
    if ia == a.size then return done out ia ib
   out := out.push (← elem' b ib); ib := ib + 1
   if ib == b.size then return done out ia ib
   let some k ← zbJ true (← elem' a ia) b ib (b.size - ib) 0 | return done out ia ib
   bcount := k
   if k > 0 then
    out := out ++ b.extract ib (ib + k); ib := ib + k
    if ib == b.size then return done out ia ib
   out := out.push (← elem' a ia); ia := ia + 1
   if ia + 1 == a.size then return lastOfA out ia ib
   if acount < 7 && bcount < 7 then break
  minGallop := minGallop + 1
  zaK minGallop
 unsupported "internal:list.sort.merge-bound") := rfl
section
variable {prog : Program} {w : World} {A : Around} {E : Value → Shared → Prop} {s : Shared} {κ : SortKind} {L : Keyed → Keyed → Bool} {S : Keyed → Prop}
def Asks (prog : Program) (w : World) (A : Around) (E : Value → Shared → Prop) (s : Shared) (κ : SortKind) (L : Keyed → Keyed → Bool) (S : Keyed → Prop) : Prop :=
 ∀ x y (st : SortSt) (Q : Option Bool → SortSt → Prop), S x → S y → kindOf st = κ → Q (some (L x y)) st → wpS (model prog w) A E s (lt' x y) Q st
def StG (st st' : SortSt) : Prop := ∃ g, st' = SortSt.mk' (kindOf st) (arrOf st) (pendingOf st) g (failedOf st)
theorem StG.kind {st st' : SortSt} (h : StG st st') (hk : kindOf st = κ) : kindOf st' = κ := by obtain ⟨g, rfl⟩ := h; exact hk
theorem StG.set {st st' : SortSt} (h : StG st st') (g : Nat) : StG st (SortSt.mk' (kindOf st') (arrOf st') (pendingOf st') g (failedOf st')) := by obtain ⟨g', rfl⟩ := h; exact ⟨g, rfl⟩
theorem zaD {arr : Array Keyed} {i : Nat} {x : Keyed} {st : SortSt} {Q : Keyed → SortSt → Prop} (h : arr[i]? = some x) (q : Q x st) : wpS (model prog w) A E s (elem' arr i) Q st := by
 rw [elem'_eq, h]; exact wpS_pure q
theorem zcx {r : String} {st : SortSt} {Q : Unit → SortSt → Prop} (q : Q () st) : wpS (model prog w) A E s (liftM (rule r) : StateT SortSt Sem Unit) Q st :=
 wpS_lift (wpAny_rule ⟨rfl, q⟩)
theorem zjx {g : Nat} {st : SortSt} {Q : Unit → SortSt → Prop} (q : Q () (SortSt.mk' (kindOf st) (arrOf st) (pendingOf st) g (failedOf st))) : wpS (model prog w) A E s (zaK g) Q st := by
 rw [zdd]; exact wpS_modify q
theorem zcX (a : Array Keyed) (i : Nat) : (a.extract i a.size).toList = a.toList.drop i := by
 rw [Array.toList_extract, List.extract_eq_drop_take]
 rw [List.take_of_length_le (by simp)]
theorem zfV (a : Array Keyed) (i k : Nat) : (a.extract i (i + k)).toList = (a.toList.drop i).take k := by
 rw [Array.toList_extract, List.extract_eq_drop_take]
 rw [show i + k - i = k by omega]
theorem zaI {a : Array Keyed} {i : Nat} (h : i < a.size) : ∃ x, a[i]? = some x ∧ a.toList[i]? = some x ∧ x ∈ a.toList := ⟨a[i], by simp [h], by simp [h], by simp⟩
theorem zb2 (O : LOrd L) (K : Asks prog w A E s κ L S) {left : Bool} {key : Keyed} {arr : Array Keyed} {base n hint : Nat} {st : SortSt} {Q : Option Nat → SortSt → Prop} (hk : kindOf st = κ) (hS : ∀ x ∈ arr.toList, S x) (hkey : S key) (srt : SrtL L arr.toList) (hn : base + n ≤ arr.size) (hh : hint < n)
 (q : ∀ k, k ≤ n → (∀ (i : Nat) x, i < k → arr.toList[base + i]? = some x → (if left then L x key else !L key x) = true) → (∀ (i : Nat) x, k ≤ i → i < n → arr.toList[base + i]? = some x → (if left then L x key else !L key x) = false) → Q (some k) st) :
 wpS (model prog w) A E s (zbJ left key arr base n hint) Q st := by
 have get : ∀ i, i < n → ∃ x, arr[base + i]? = some x ∧ arr.toList[base + i]? = some x ∧ x ∈ arr.toList := fun i hi => zaI (by omega)
 refine zeY (fun i => match arr[base + i]? with | some x => (if left then L x key else !L key x) | none => false) (fun i hi Q' q' => ?_) (fun i j hij hj hb => ?_) hh fun k hc => q k hc.le (fun i x hi hx => ?_) fun i x h1 h2 hx => ?_
 · obtain ⟨x, e, _, hm⟩ := get i hi
   rw [e] at q'
   refine wpS_bind (zaD e ?_)
   cases left with
   | true => exact K x key st _ (hS x hm) hkey hk q'
   | false => exact wpS_bind (K key x st _ hkey (hS x hm) hk (wpS_pure q'))
 · obtain ⟨x, ex, ex', _⟩ := get i (by omega)
   obtain ⟨y, ey, ey', _⟩ := get j hj
   rw [ey] at hb
   show (match arr[base + i]? with | some x => (if left then L x key else !L key x) | none => false) = true
   rw [ex]
   have le : L y x = false := by
    obtain ⟨h1, e1⟩ := List.getElem?_eq_some_iff.mp ex'
    obtain ⟨h2, e2⟩ := List.getElem?_eq_some_iff.mp ey'
    have := List.pairwise_iff_getElem.mp srt (base + i) (base + j) h1 h2 (by omega)
    rw [e1, e2] at this
    exact this
   cases left with
   | true =>
    have hb : L y key = true := hb
    show L x key = true
    cases z : L x key with
    | true => rfl
    | false => rw [O.ntr y x key le z] at hb; cases hb
   | false =>
    have hb : (!L key y) = true := hb
    show (!L key x) = true
    have hb : L key y = false := by simpa using hb
    rw [O.ntr key y x hb le]
    rfl
 · have := hc.yes i hi
   obtain ⟨y, ey, ey', _⟩ := get i (by have := hc.le; omega)
   rw [ey] at this
   rw [hx] at ey'
   cases ey'
   exact this
 · have := hc.no i h1 h2
   obtain ⟨y, ey, ey', _⟩ := get i h2
   rw [ey] at this
   rw [hx] at ey'
   cases ey'
   exact this
end
end L2
set_option maxHeartbeats 4000000
namespace L2
open PySem PySem.Spec PyProof.Rows
section
variable {prog : Program} {w : World} {A : Around} {E : Value → Shared → Prop} {s : Shared} {κ : SortKind} {L : Keyed → Keyed → Bool} {S : Keyed → Prop}
def Res (L : Keyed → Keyed → Bool) (a b o : Array Keyed) : Prop := o.toList.Perm (a.toList ++ b.toList) ∧ SrtL L o.toList
variable {a b out : Array Keyed} {ia ib : Nat}
abbrev MI (L : Keyed → Keyed → Bool) (a b out : Array Keyed) (ia ib : Nat) : Prop := MInv L a.toList b.toList out.toList ia ib
theorem res1 (I : MI L a b out ia ib) (sa : SrtL L a.toList) (h : ib = b.size) : Res L a b (out ++ a.extract ia a.size ++ b.extract ib b.size) := by
 unfold Res
 rw [Array.toList_append, Array.toList_append, zcX, zcX]
 exact I.done1 sa (by simpa using h)
theorem res2 (I : MI L a b out ia ib) (sb : SrtL L b.toList) (h : ia = a.size) : Res L a b (out ++ a.extract ia a.size ++ b.extract ib b.size) := by
 unfold Res
 rw [Array.toList_append, Array.toList_append, zcX, zcX]
 exact I.done2 sb (by simpa using h)
theorem resL (I : MI L a b out ia ib) (sb : SrtL L b.toList) (h : ia + 1 = a.size) (hl : ∀ z, a[a.size - 1]? = some z → ∀ y ∈ b.toList, L z y = false) : Res L a b (out ++ b.extract ib b.size ++ a.extract ia a.size) := by
 unfold Res
 rw [Array.toList_append, Array.toList_append, zcX, zcX]
 obtain ⟨x, e1, e2, _⟩ := zaI (a := a) (i := ia) (by omega)
 refine I.last sb (z := x) ?_ (hl x (by rw [show a.size - 1 = ia by omega]; exact e1))
 have := zbU e2
 rw [List.take_of_length_le (by simp; omega)] at this
 exact this
theorem zbS (O : LOrd L) {l : List Keyed} (sl : SrtL L l) {i : Nat} {x : Keyed} (h : l[i]? = some x) : ∀ z ∈ l.drop i, L z x = false := by
 intro z hz
 obtain ⟨hi, e⟩ := List.getElem?_eq_some_iff.mp h
 rw [List.drop_eq_getElem_cons hi, e] at hz
 rcases List.mem_cons.mp hz with rfl | hz
 · exact O.irr _
 · obtain ⟨j, hj, ej⟩ := List.mem_iff_getElem.mp hz
   rw [List.getElem_drop] at ej
   rw [List.length_drop] at hj
   have := List.pairwise_iff_getElem.mp sl i (i + 1 + j) hi (by omega) (by omega)
   rw [e, ej] at this
   exact this
theorem zcs {l : List Keyed} {i k : Nat} {x : Keyed} (h : x ∈ (l.drop i).take k) : ∃ j, j < k ∧ l[i + j]? = some x := by
 obtain ⟨j, hj, e⟩ := List.mem_iff_getElem.mp h
 rw [List.length_take] at hj
 refine ⟨j, by omega, ?_⟩
 rw [List.getElem_take, List.getElem_drop] at e
 rw [← e]
 exact List.getElem?_eq_getElem _
theorem zaY {l : List Keyed} {i : Nat} {x : Keyed} (h : x ∈ l.drop i) : ∃ j, i ≤ j ∧ j < l.length ∧ l[j]? = some x := by
 obtain ⟨j, hj, e⟩ := List.mem_iff_getElem.mp h
 rw [List.length_drop] at hj
 rw [List.getElem_drop] at e
 exact ⟨i + j, by omega, by omega, by rw [← e]; exact List.getElem?_eq_getElem _⟩
theorem zcQ {g : Nat} {st st' : SortSt} {Q : Unit → SortSt → Prop} (h : StG st st') (q : ∀ st3, StG st st3 → Q () st3) : wpS (model prog w) A E s (zaK g) Q st' := zjx (q _ (h.set g))
theorem zgG (O : LOrd L) (K : Asks prog w A E s κ L S) {st : SortSt} {Q : Array Keyed → SortSt → Prop} (hk : kindOf st = κ) (hSa : ∀ x ∈ a.toList, S x) (hSb : ∀ x ∈ b.toList, S x) (sa : SrtL L a.toList) (sb : SrtL L b.toList) (ha : 1 ≤ a.size) (hb : 1 ≤ b.size)
 (hf : ∀ y, b[0]? = some y → ∀ x ∈ a.toList, L x y = false) (hl : ∀ z, a[a.size - 1]? = some z → ∀ y ∈ b.toList, L z y = false) (q : ∀ o st', StG st st' → Res L a b o → Q o st') : wpS (model prog w) A E s (zej a b) Q st := by
 rw [zfN]
 dsimp only
 refine wpS_bind (zcx ?_)
 obtain ⟨y0, e0, e0', m0⟩ := zaI (a := b) (i := 0) (by omega)
 refine wpS_bind (zaD e0 ?_)
 have I0 : MI L a b #[y0] 0 1 := by
  have z : MI L a b #[] 0 0 := ⟨by simp, by simp, by simp⟩
  exact z.pushB sb e0' (by rw [List.drop_zero]; exact hf y0 e0)
 by_cases h1 : 1 = b.size
 · rw [if_pos (by simpa using h1)]
   exact wpS_pure (q _ _ ⟨_, rfl⟩ (res1 I0 sa h1))
 rw [if_neg (by simpa using h1)]
 by_cases h2 : 0 + 1 = a.size
 · rw [if_pos (by simpa using h2)]
   exact wpS_pure (q _ _ ⟨_, rfl⟩ (resL I0 sb h2 hl))
 rw [if_neg (by simpa using h2)]
 refine wpS_bind (wpS_get ?_)
 have sz : ∀ {o : Array Keyed} {i j : Nat}, MI L a b o i j → True := fun _ => trivial
 refine wpS_bind (wpS_mono (wpS_forRange
  (I := fun x c st' => StG st st' ∧ ∃ o i j g, c = (none, o, i, j, g) ∧ MI L a b o i j ∧ i + 1 < a.size ∧ j < b.size ∧ x + 1 ≤ i + j)
  (Q := fun c st' => StG st st' ∧ ∃ o, c.1 = some o ∧ Res L a b o) ?step ?fin ⟨⟨_, rfl⟩, _, _, _, _, rfl, I0, by omega, by omega, by omega⟩) ?post)
 case fin =>
  rintro c st' ⟨_, o, i, j, g, rfl, I, h3, h4, h5⟩
  omega
 case post =>
  rintro c st' ⟨hst, o, e, r⟩
  rw [e]
  exact wpS_pure (q _ _ hst r)
 case step =>
  rintro x c st1 _ hx ⟨hs1, o1, i1, j1, g1, rfl, I1, a1, b1, c1⟩
  dsimp only
  refine wpS_bind (wpS_mono (wpS_forRange
   (I := fun y c st' => st' = st1 ∧ ∃ o i j p r, c = (none, o, i, j, p, r) ∧ MI L a b o i j ∧ i + 1 < a.size ∧ j < b.size ∧ i1 + j1 + y ≤ i + j)
   (Q := fun c st' => st' = st1 ∧ ((∃ o, c.1 = some o ∧ Res L a b o) ∨ ∃ o i j p r, c = (none, o, i, j, p, r) ∧ MI L a b o i j ∧ i + 1 < a.size ∧ j < b.size ∧ i1 + j1 + 1 ≤ i + j)) ?step1 ?fin1 ⟨rfl, _, _, _, _, _, rfl, I1, a1, b1, by omega⟩) ?post1)
  case fin1 =>
   rintro c st' ⟨_, o, i, j, p, r, rfl, I, h3, h4, h5⟩
   omega
  case step1 =>
   rintro y c st' _ hy ⟨rfl, o, i, j, p, r, rfl, I, h3, h4, h5⟩
   dsimp only
   obtain ⟨vb, eb, eb', mb⟩ := zaI (a := b) (i := j) h4
   obtain ⟨va, ea, ea', ma⟩ := zaI (a := a) (i := i) (by omega)
   refine wpS_bind (zaD eb (wpS_bind (zaD ea (wpS_bind (K vb va _ _ (hSb _ mb) (hSa _ ma) (hs1.kind hk) ?_)))))
   dsimp only
   cases hw : L vb va with
   | true =>
    rw [if_pos rfl]
    refine wpS_bind (zaD eb ?_)
    have I' : MI L a b (o.push vb) i (j + 1) := by
     have := I.pushB sb eb' fun z hz => O.ntr z va vb (zbS O sa ea' z hz) (O.asym _ _ hw)
     unfold MI
     rw [Array.toList_push]
     exact this
    by_cases h6 : j + 1 = b.size
    · rw [if_pos (by simpa using h6)]
      exact wpS_pure ⟨rfl, .inl ⟨_, rfl, res1 I' sa h6⟩⟩
    rw [if_neg (by simpa using h6)]
    by_cases h7 : r + 1 ≥ g1
    · rw [if_pos h7]
      exact wpS_pure ⟨rfl, .inr ⟨_, _, _, _, _, rfl, I', h3, by omega, by omega⟩⟩
    · rw [if_neg h7]
      exact wpS_pure ⟨rfl, _, _, _, _, _, rfl, I', h3, by omega, by omega⟩
   | false =>
    rw [if_neg (by simp)]
    refine wpS_bind (zaD ea ?_)
    have I' : MI L a b (o.push va) (i + 1) j := by
     have := I.pushA sa ea' fun z hz => O.ntr z vb va (zbS O sb eb' z hz) hw
     unfold MI
     rw [Array.toList_push]
     exact this
    by_cases h6 : i + 1 + 1 = a.size
    · rw [if_pos (by simpa using h6)]
      exact wpS_pure ⟨rfl, .inl ⟨_, rfl, resL I' sb h6 hl⟩⟩
    rw [if_neg (by simpa using h6)]
    by_cases h7 : p + 1 ≥ g1
    · rw [if_pos h7]
      exact wpS_pure ⟨rfl, .inr ⟨_, _, _, _, _, rfl, I', by omega, h4, by omega⟩⟩
    · rw [if_neg h7]
      exact wpS_pure ⟨rfl, _, _, _, _, _, rfl, I', by omega, h4, by omega⟩
  case post1 =>
   rintro c st' ⟨rfl, (⟨o, e, r⟩ | ⟨o, i, j, p, r, rfl, I, h3, h4, h5⟩)⟩
   · rw [e]
     exact wpS_pure ⟨hs1, _, rfl, r⟩
   dsimp only
   refine wpS_bind (zcx ?_)
   refine wpS_bind (wpS_mono (wpS_forRange
    (I := fun y c st' => StG st st' ∧ ∃ o' i' j' g' p' r', c = (none, o', i', j', g', p', r') ∧ MI L a b o' i' j' ∧ i' + 1 < a.size ∧ j' < b.size ∧ i + j + y ≤ i' + j')
    (Q := fun c st' => StG st st' ∧ ((∃ o', c.1 = some o' ∧ Res L a b o') ∨ ∃ o' i' j' g' p' r', c = (none, o', i', j', g', p', r') ∧ MI L a b o' i' j' ∧ i' + 1 < a.size ∧ j' < b.size ∧ i + j ≤ i' + j')) ?step2 ?fin2 ⟨hs1, _, _, _, _, _, _, rfl, I, h3, h4, by omega⟩) ?post2)
   case fin2 =>
    rintro c st' ⟨_, o', i', j', g', p', r', rfl, I', h6, h7, h8⟩
    omega
   case post2 =>
    rintro c st' ⟨hs2, (⟨o', e, r'⟩ | ⟨o', i', j', g', p', r', rfl, I', h6, h7, h8⟩)⟩
    · rw [e]
      exact wpS_pure ⟨hs2, _, rfl, r'⟩
    dsimp only
    refine wpS_bind (zcQ hs2 fun st3 hs3 => ?_)
    exact wpS_pure ⟨hs3, _, _, _, _, rfl, I', h6, h7, by omega⟩
   case step2 =>
    rintro y c st' _ hy ⟨hs2, o2, i2, j2, g2, p2, r2, rfl, I2, h6, h7, h8⟩
    dsimp only
    by_cases hg : g2 > 1
    · rw [if_pos hg]
      refine wpS_bind (zcQ hs2 fun st3 hs3 => ?_)
      obtain ⟨vb, eb, eb', mb⟩ := zaI (a := b) (i := j2) h7
      refine wpS_bind (zaD eb (wpS_bind (zb2 O K (hs3.kind hk) hSa (hSb _ mb) sa (by omega) (by omega) fun k hkn hyes hno => ?_)))
      have yes : ∀ (n : Nat) x, n < k → a.toList[i2 + n]? = some x → L vb x = false := fun n x h1 h2 => by simpa using hyes n x h1 h2
      have no : ∀ (n : Nat) x, k ≤ n → n < a.size - i2 → a.toList[i2 + n]? = some x → L vb x = true := fun n x h1 h2 h3 => by simpa using hno n x h1 h2 h3
      have hgt : ∀ z ∈ a.toList.drop (i2 + k), L z vb = false := fun z hz => by
       obtain ⟨n, n1, n2, n3⟩ := zaY hz
       exact O.asym _ _ (no (n - i2) z (by omega) (by simp at n2; omega) (by rw [show i2 + (n - i2) = n by omega]; exact n3))
      dsimp only
      by_cases hk0 : k > 0
      · rw [if_pos hk0]
        have I' : MI L a b (o2 ++ a.extract i2 (i2 + k)) (i2 + k) j2 := by
         have := I2.takeA (k := k) sa fun z hz v hv => by
          obtain ⟨n, n1, n2⟩ := zcs hz
          exact O.ntr v vb z (zbS O sb eb' v hv) (yes n z n1 n2)
         unfold MI
         rw [Array.toList_append, zfV]
         exact this
        by_cases h9 : i2 + k + 1 = a.size
        · rw [if_pos (by simpa using h9)]
          exact wpS_pure ⟨hs3, .inl ⟨_, rfl, resL I' sb h9 hl⟩⟩
        rw [if_neg (by simpa using h9)]
        by_cases h10 : i2 + k = a.size
        · rw [if_pos (by simpa using h10)]
          exact wpS_pure ⟨hs3, .inl ⟨_, rfl, res2 I' sb h10⟩⟩
        rw [if_neg (by simpa using h10)]
        refine wpS_bind (zaD eb ?_)
        have I3 : MI L a b ((o2 ++ a.extract i2 (i2 + k)).push vb) ((i2 + k)) (j2 + 1) := by
         have := I'.pushB sb eb' hgt
         unfold MI
         rw [Array.toList_push]
         exact this
        by_cases h11 : j2 + 1 = b.size
        · rw [if_pos (by simpa using h11)]
          exact wpS_pure ⟨hs3, .inl ⟨_, rfl, res1 I3 sa h11⟩⟩
        rw [if_neg (by simpa using h11)]
        obtain ⟨va, ea, ea', ma⟩ := zaI (a := a) (i := (i2 + k)) (by omega)
        refine wpS_bind (zaD ea (wpS_bind (zb2 O K (hs3.kind hk) hSb (hSa _ ma) sb (by omega) (by omega) fun k2 hkn2 hyes2 hno2 => ?_)))
        have yes2 : ∀ (i : Nat) x, i < k2 → b.toList[j2 + 1 + i]? = some x → L x va = true := fun i x h1 h2 => by simpa using hyes2 i x h1 h2
        have no2 : ∀ (i : Nat) x, k2 ≤ i → i < b.size - (j2 + 1) → b.toList[j2 + 1 + i]? = some x → L x va = false := fun i x h1 h2 h3 => by simpa using hno2 i x h1 h2 h3
        dsimp only
        by_cases hk2 : k2 > 0
        · rw [if_pos hk2]
          have I4 : MI L a b ((o2 ++ a.extract i2 (i2 + k)).push vb ++ b.extract (j2 + 1) (j2 + 1 + k2)) ((i2 + k)) (j2 + 1 + k2) := by
           have := I3.takeB (k := k2) sb fun z hz v hv => by
            obtain ⟨n, n1, n2⟩ := zcs hz
            exact O.ntr v va z (zbS O sa ea' v hv) (O.asym _ _ (yes2 n z n1 n2))
           unfold MI
           rw [Array.toList_append, zfV]
           exact this
          by_cases h12 : j2 + 1 + k2 = b.size
          · rw [if_pos (by simpa using h12)]
            exact wpS_pure ⟨hs3, .inl ⟨_, rfl, res1 I4 sa h12⟩⟩
          rw [if_neg (by simpa using h12)]
          refine wpS_bind (zaD ea ?_)
          have I5 : MI L a b (((o2 ++ a.extract i2 (i2 + k)).push vb ++ b.extract (j2 + 1) (j2 + 1 + k2)).push va) ((i2 + k) + 1) (j2 + 1 + k2) := by
           have := I4.pushA sa ea' fun z hz => by
            obtain ⟨n, n1, n2, n3⟩ := zaY hz
            exact no2 (n - (j2 + 1)) z (by omega) (by simp at n2; omega) (by rw [show j2 + 1 + (n - (j2 + 1)) = n by omega]; exact n3)
           unfold MI
           rw [Array.toList_push]
           exact this
          by_cases h13 : (i2 + k) + 1 + 1 = a.size
          · rw [if_pos (by simpa using h13)]
            exact wpS_pure ⟨hs3, .inl ⟨_, rfl, resL I5 sb h13 hl⟩⟩
          rw [if_neg (by simpa using h13)]
          split
          · exact wpS_pure ⟨hs3, .inr ⟨_, _, _, _, _, _, rfl, I5, by omega, by omega, by omega⟩⟩
          · exact wpS_pure ⟨hs3, _, _, _, _, _, _, rfl, I5, by omega, by omega, by omega⟩
        · rw [if_neg hk2]
          have I4 := I3
          refine wpS_bind (zaD ea ?_)
          have I5 : MI L a b (((o2 ++ a.extract i2 (i2 + k)).push vb).push va) ((i2 + k) + 1) (j2 + 1) := by
           have := I4.pushA sa ea' fun z hz => by
            obtain ⟨n, n1, n2, n3⟩ := zaY hz
            exact no2 (n - (j2 + 1)) z (by omega) (by simp at n2; omega) (by rw [show j2 + 1 + (n - (j2 + 1)) = n by omega]; exact n3)
           unfold MI
           rw [Array.toList_push]
           exact this
          by_cases h13 : (i2 + k) + 1 + 1 = a.size
          · rw [if_pos (by simpa using h13)]
            exact wpS_pure ⟨hs3, .inl ⟨_, rfl, resL I5 sb h13 hl⟩⟩
          rw [if_neg (by simpa using h13)]
          split
          · exact wpS_pure ⟨hs3, .inr ⟨_, _, _, _, _, _, rfl, I5, by omega, by omega, by omega⟩⟩
          · exact wpS_pure ⟨hs3, _, _, _, _, _, _, rfl, I5, by omega, by omega, by omega⟩
      · rw [if_neg hk0]
        obtain rfl : k = 0 := by omega
        rw [Nat.add_zero] at hgt
        have I' := I2
        refine wpS_bind (zaD eb ?_)
        have I3 : MI L a b (o2.push vb) (i2) (j2 + 1) := by
         have := I'.pushB sb eb' hgt
         unfold MI
         rw [Array.toList_push]
         exact this
        by_cases h11 : j2 + 1 = b.size
        · rw [if_pos (by simpa using h11)]
          exact wpS_pure ⟨hs3, .inl ⟨_, rfl, res1 I3 sa h11⟩⟩
        rw [if_neg (by simpa using h11)]
        obtain ⟨va, ea, ea', ma⟩ := zaI (a := a) (i := i2) (by omega)
        refine wpS_bind (zaD ea (wpS_bind (zb2 O K (hs3.kind hk) hSb (hSa _ ma) sb (by omega) (by omega) fun k2 hkn2 hyes2 hno2 => ?_)))
        have yes2 : ∀ (i : Nat) x, i < k2 → b.toList[j2 + 1 + i]? = some x → L x va = true := fun i x h1 h2 => by simpa using hyes2 i x h1 h2
        have no2 : ∀ (i : Nat) x, k2 ≤ i → i < b.size - (j2 + 1) → b.toList[j2 + 1 + i]? = some x → L x va = false := fun i x h1 h2 h3 => by simpa using hno2 i x h1 h2 h3
        dsimp only
        by_cases hk2 : k2 > 0
        · rw [if_pos hk2]
          have I4 : MI L a b (o2.push vb ++ b.extract (j2 + 1) (j2 + 1 + k2)) (i2) (j2 + 1 + k2) := by
           have := I3.takeB (k := k2) sb fun z hz v hv => by
            obtain ⟨n, n1, n2⟩ := zcs hz
            exact O.ntr v va z (zbS O sa ea' v hv) (O.asym _ _ (yes2 n z n1 n2))
           unfold MI
           rw [Array.toList_append, zfV]
           exact this
          by_cases h12 : j2 + 1 + k2 = b.size
          · rw [if_pos (by simpa using h12)]
            exact wpS_pure ⟨hs3, .inl ⟨_, rfl, res1 I4 sa h12⟩⟩
          rw [if_neg (by simpa using h12)]
          refine wpS_bind (zaD ea ?_)
          have I5 : MI L a b ((o2.push vb ++ b.extract (j2 + 1) (j2 + 1 + k2)).push va) (i2 + 1) (j2 + 1 + k2) := by
           have := I4.pushA sa ea' fun z hz => by
            obtain ⟨n, n1, n2, n3⟩ := zaY hz
            exact no2 (n - (j2 + 1)) z (by omega) (by simp at n2; omega) (by rw [show j2 + 1 + (n - (j2 + 1)) = n by omega]; exact n3)
           unfold MI
           rw [Array.toList_push]
           exact this
          by_cases h13 : i2 + 1 + 1 = a.size
          · rw [if_pos (by simpa using h13)]
            exact wpS_pure ⟨hs3, .inl ⟨_, rfl, resL I5 sb h13 hl⟩⟩
          rw [if_neg (by simpa using h13)]
          split
          · exact wpS_pure ⟨hs3, .inr ⟨_, _, _, _, _, _, rfl, I5, by omega, by omega, by omega⟩⟩
          · exact wpS_pure ⟨hs3, _, _, _, _, _, _, rfl, I5, by omega, by omega, by omega⟩
        · rw [if_neg hk2]
          have I4 := I3
          refine wpS_bind (zaD ea ?_)
          have I5 : MI L a b ((o2.push vb).push va) (i2 + 1) (j2 + 1) := by
           have := I4.pushA sa ea' fun z hz => by
            obtain ⟨n, n1, n2, n3⟩ := zaY hz
            exact no2 (n - (j2 + 1)) z (by omega) (by simp at n2; omega) (by rw [show j2 + 1 + (n - (j2 + 1)) = n by omega]; exact n3)
           unfold MI
           rw [Array.toList_push]
           exact this
          by_cases h13 : i2 + 1 + 1 = a.size
          · rw [if_pos (by simpa using h13)]
            exact wpS_pure ⟨hs3, .inl ⟨_, rfl, resL I5 sb h13 hl⟩⟩
          rw [if_neg (by simpa using h13)]
          split
          · exact wpS_pure ⟨hs3, .inr ⟨_, _, _, _, _, _, rfl, I5, by omega, by omega, by omega⟩⟩
          · exact wpS_pure ⟨hs3, _, _, _, _, _, _, rfl, I5, by omega, by omega, by omega⟩
    · rw [if_neg hg]
      refine wpS_bind (zcQ hs2 fun st3 hs3 => ?_)
      obtain ⟨vb, eb, eb', mb⟩ := zaI (a := b) (i := j2) h7
      refine wpS_bind (zaD eb (wpS_bind (zb2 O K (hs3.kind hk) hSa (hSb _ mb) sa (by omega) (by omega) fun k hkn hyes hno => ?_)))
      have yes : ∀ (n : Nat) x, n < k → a.toList[i2 + n]? = some x → L vb x = false := fun n x h1 h2 => by simpa using hyes n x h1 h2
      have no : ∀ (n : Nat) x, k ≤ n → n < a.size - i2 → a.toList[i2 + n]? = some x → L vb x = true := fun n x h1 h2 h3 => by simpa using hno n x h1 h2 h3
      have hgt : ∀ z ∈ a.toList.drop (i2 + k), L z vb = false := fun z hz => by
       obtain ⟨n, n1, n2, n3⟩ := zaY hz
       exact O.asym _ _ (no (n - i2) z (by omega) (by simp at n2; omega) (by rw [show i2 + (n - i2) = n by omega]; exact n3))
      dsimp only
      by_cases hk0 : k > 0
      · rw [if_pos hk0]
        have I' : MI L a b (o2 ++ a.extract i2 (i2 + k)) (i2 + k) j2 := by
         have := I2.takeA (k := k) sa fun z hz v hv => by
          obtain ⟨n, n1, n2⟩ := zcs hz
          exact O.ntr v vb z (zbS O sb eb' v hv) (yes n z n1 n2)
         unfold MI
         rw [Array.toList_append, zfV]
         exact this
        by_cases h9 : i2 + k + 1 = a.size
        · rw [if_pos (by simpa using h9)]
          exact wpS_pure ⟨hs3, .inl ⟨_, rfl, resL I' sb h9 hl⟩⟩
        rw [if_neg (by simpa using h9)]
        by_cases h10 : i2 + k = a.size
        · rw [if_pos (by simpa using h10)]
          exact wpS_pure ⟨hs3, .inl ⟨_, rfl, res2 I' sb h10⟩⟩
        rw [if_neg (by simpa using h10)]
        refine wpS_bind (zaD eb ?_)
        have I3 : MI L a b ((o2 ++ a.extract i2 (i2 + k)).push vb) ((i2 + k)) (j2 + 1) := by
         have := I'.pushB sb eb' hgt
         unfold MI
         rw [Array.toList_push]
         exact this
        by_cases h11 : j2 + 1 = b.size
        · rw [if_pos (by simpa using h11)]
          exact wpS_pure ⟨hs3, .inl ⟨_, rfl, res1 I3 sa h11⟩⟩
        rw [if_neg (by simpa using h11)]
        obtain ⟨va, ea, ea', ma⟩ := zaI (a := a) (i := (i2 + k)) (by omega)
        refine wpS_bind (zaD ea (wpS_bind (zb2 O K (hs3.kind hk) hSb (hSa _ ma) sb (by omega) (by omega) fun k2 hkn2 hyes2 hno2 => ?_)))
        have yes2 : ∀ (i : Nat) x, i < k2 → b.toList[j2 + 1 + i]? = some x → L x va = true := fun i x h1 h2 => by simpa using hyes2 i x h1 h2
        have no2 : ∀ (i : Nat) x, k2 ≤ i → i < b.size - (j2 + 1) → b.toList[j2 + 1 + i]? = some x → L x va = false := fun i x h1 h2 h3 => by simpa using hno2 i x h1 h2 h3
        dsimp only
        by_cases hk2 : k2 > 0
        · rw [if_pos hk2]
          have I4 : MI L a b ((o2 ++ a.extract i2 (i2 + k)).push vb ++ b.extract (j2 + 1) (j2 + 1 + k2)) ((i2 + k)) (j2 + 1 + k2) := by
           have := I3.takeB (k := k2) sb fun z hz v hv => by
            obtain ⟨n, n1, n2⟩ := zcs hz
            exact O.ntr v va z (zbS O sa ea' v hv) (O.asym _ _ (yes2 n z n1 n2))
           unfold MI
           rw [Array.toList_append, zfV]
           exact this
          by_cases h12 : j2 + 1 + k2 = b.size
          · rw [if_pos (by simpa using h12)]
            exact wpS_pure ⟨hs3, .inl ⟨_, rfl, res1 I4 sa h12⟩⟩
          rw [if_neg (by simpa using h12)]
          refine wpS_bind (zaD ea ?_)
          have I5 : MI L a b (((o2 ++ a.extract i2 (i2 + k)).push vb ++ b.extract (j2 + 1) (j2 + 1 + k2)).push va) ((i2 + k) + 1) (j2 + 1 + k2) := by
           have := I4.pushA sa ea' fun z hz => by
            obtain ⟨n, n1, n2, n3⟩ := zaY hz
            exact no2 (n - (j2 + 1)) z (by omega) (by simp at n2; omega) (by rw [show j2 + 1 + (n - (j2 + 1)) = n by omega]; exact n3)
           unfold MI
           rw [Array.toList_push]
           exact this
          by_cases h13 : (i2 + k) + 1 + 1 = a.size
          · rw [if_pos (by simpa using h13)]
            exact wpS_pure ⟨hs3, .inl ⟨_, rfl, resL I5 sb h13 hl⟩⟩
          rw [if_neg (by simpa using h13)]
          split
          · exact wpS_pure ⟨hs3, .inr ⟨_, _, _, _, _, _, rfl, I5, by omega, by omega, by omega⟩⟩
          · exact wpS_pure ⟨hs3, _, _, _, _, _, _, rfl, I5, by omega, by omega, by omega⟩
        · rw [if_neg hk2]
          have I4 := I3
          refine wpS_bind (zaD ea ?_)
          have I5 : MI L a b (((o2 ++ a.extract i2 (i2 + k)).push vb).push va) ((i2 + k) + 1) (j2 + 1) := by
           have := I4.pushA sa ea' fun z hz => by
            obtain ⟨n, n1, n2, n3⟩ := zaY hz
            exact no2 (n - (j2 + 1)) z (by omega) (by simp at n2; omega) (by rw [show j2 + 1 + (n - (j2 + 1)) = n by omega]; exact n3)
           unfold MI
           rw [Array.toList_push]
           exact this
          by_cases h13 : (i2 + k) + 1 + 1 = a.size
          · rw [if_pos (by simpa using h13)]
            exact wpS_pure ⟨hs3, .inl ⟨_, rfl, resL I5 sb h13 hl⟩⟩
          rw [if_neg (by simpa using h13)]
          split
          · exact wpS_pure ⟨hs3, .inr ⟨_, _, _, _, _, _, rfl, I5, by omega, by omega, by omega⟩⟩
          · exact wpS_pure ⟨hs3, _, _, _, _, _, _, rfl, I5, by omega, by omega, by omega⟩
      · rw [if_neg hk0]
        obtain rfl : k = 0 := by omega
        rw [Nat.add_zero] at hgt
        have I' := I2
        refine wpS_bind (zaD eb ?_)
        have I3 : MI L a b (o2.push vb) (i2) (j2 + 1) := by
         have := I'.pushB sb eb' hgt
         unfold MI
         rw [Array.toList_push]
         exact this
        by_cases h11 : j2 + 1 = b.size
        · rw [if_pos (by simpa using h11)]
          exact wpS_pure ⟨hs3, .inl ⟨_, rfl, res1 I3 sa h11⟩⟩
        rw [if_neg (by simpa using h11)]
        obtain ⟨va, ea, ea', ma⟩ := zaI (a := a) (i := i2) (by omega)
        refine wpS_bind (zaD ea (wpS_bind (zb2 O K (hs3.kind hk) hSb (hSa _ ma) sb (by omega) (by omega) fun k2 hkn2 hyes2 hno2 => ?_)))
        have yes2 : ∀ (i : Nat) x, i < k2 → b.toList[j2 + 1 + i]? = some x → L x va = true := fun i x h1 h2 => by simpa using hyes2 i x h1 h2
        have no2 : ∀ (i : Nat) x, k2 ≤ i → i < b.size - (j2 + 1) → b.toList[j2 + 1 + i]? = some x → L x va = false := fun i x h1 h2 h3 => by simpa using hno2 i x h1 h2 h3
        dsimp only
        by_cases hk2 : k2 > 0
        · rw [if_pos hk2]
          have I4 : MI L a b (o2.push vb ++ b.extract (j2 + 1) (j2 + 1 + k2)) (i2) (j2 + 1 + k2) := by
           have := I3.takeB (k := k2) sb fun z hz v hv => by
            obtain ⟨n, n1, n2⟩ := zcs hz
            exact O.ntr v va z (zbS O sa ea' v hv) (O.asym _ _ (yes2 n z n1 n2))
           unfold MI
           rw [Array.toList_append, zfV]
           exact this
          by_cases h12 : j2 + 1 + k2 = b.size
          · rw [if_pos (by simpa using h12)]
            exact wpS_pure ⟨hs3, .inl ⟨_, rfl, res1 I4 sa h12⟩⟩
          rw [if_neg (by simpa using h12)]
          refine wpS_bind (zaD ea ?_)
          have I5 : MI L a b ((o2.push vb ++ b.extract (j2 + 1) (j2 + 1 + k2)).push va) (i2 + 1) (j2 + 1 + k2) := by
           have := I4.pushA sa ea' fun z hz => by
            obtain ⟨n, n1, n2, n3⟩ := zaY hz
            exact no2 (n - (j2 + 1)) z (by omega) (by simp at n2; omega) (by rw [show j2 + 1 + (n - (j2 + 1)) = n by omega]; exact n3)
           unfold MI
           rw [Array.toList_push]
           exact this
          by_cases h13 : i2 + 1 + 1 = a.size
          · rw [if_pos (by simpa using h13)]
            exact wpS_pure ⟨hs3, .inl ⟨_, rfl, resL I5 sb h13 hl⟩⟩
          rw [if_neg (by simpa using h13)]
          split
          · exact wpS_pure ⟨hs3, .inr ⟨_, _, _, _, _, _, rfl, I5, by omega, by omega, by omega⟩⟩
          · exact wpS_pure ⟨hs3, _, _, _, _, _, _, rfl, I5, by omega, by omega, by omega⟩
        · rw [if_neg hk2]
          have I4 := I3
          refine wpS_bind (zaD ea ?_)
          have I5 : MI L a b ((o2.push vb).push va) (i2 + 1) (j2 + 1) := by
           have := I4.pushA sa ea' fun z hz => by
            obtain ⟨n, n1, n2, n3⟩ := zaY hz
            exact no2 (n - (j2 + 1)) z (by omega) (by simp at n2; omega) (by rw [show j2 + 1 + (n - (j2 + 1)) = n by omega]; exact n3)
           unfold MI
           rw [Array.toList_push]
           exact this
          by_cases h13 : i2 + 1 + 1 = a.size
          · rw [if_pos (by simpa using h13)]
            exact wpS_pure ⟨hs3, .inl ⟨_, rfl, resL I5 sb h13 hl⟩⟩
          rw [if_neg (by simpa using h13)]
          split
          · exact wpS_pure ⟨hs3, .inr ⟨_, _, _, _, _, _, rfl, I5, by omega, by omega, by omega⟩⟩
          · exact wpS_pure ⟨hs3, _, _, _, _, _, _, rfl, I5, by omega, by omega, by omega⟩
end
section
variable {α : Type} {L : α → α → Bool}
structure HInv (L : α → α → Bool) (a b out : List α) (na nb : Nat) : Prop where
 perm : (a.take na ++ b.take nb ++ out.reverse).Perm (a ++ b)
 srt : SrtL L out.reverse
 le : ∀ x ∈ out, ∀ y ∈ a.take na ++ b.take nb, L x y = false
variable {a b out : List α} {na nb m : Nat}
theorem HInv.takeA (I : HInv L a b out na nb) (sa : SrtL L a) (hm : m ≤ na) (h : ∀ x ∈ (a.take na).drop m, ∀ y ∈ b.take nb, L x y = false) : HInv L a b (out ++ ((a.take na).drop m).reverse) m nb := by
 have e : a.take na = a.take m ++ (a.take na).drop m := by
  have := List.take_append_drop m (a.take na)
  rw [List.take_take, Nat.min_eq_left hm] at this
  exact this.symm
 have sd : SrtL L (a.take na) := sa.sublist (List.take_sublist _ _)
 refine ⟨?_, ?_, ?_⟩
 · refine List.Perm.trans ?_ I.perm
   rw [List.reverse_append, List.reverse_reverse]
   conv => rhs; rw [e]
   simp only [List.append_assoc]
   refine List.Perm.append_left _ ?_
   rw [← List.append_assoc, ← List.append_assoc]
   exact List.Perm.append_right _ List.perm_append_comm
 · rw [List.reverse_append, List.reverse_reverse]
   refine zaV (sd.sublist (List.drop_sublist _ _)) I.srt fun x hx y hy => ?_
   exact I.le y (List.mem_reverse.mp hy) x (List.mem_append_left _ (List.mem_of_mem_drop hx))
 · intro x hx y hy
   rcases List.mem_append.mp hx with hx | hx
   · refine I.le x hx y ?_
     rcases List.mem_append.mp hy with hy | hy
     · rw [e]; exact List.mem_append_left _ (List.mem_append_left _ hy)
     · exact List.mem_append_right _ hy
   · have hx := List.mem_reverse.mp hx
     rcases List.mem_append.mp hy with hy | hy
     · rw [e] at sd
       exact (List.pairwise_append.mp sd).2.2 y hy x hx
     · exact h x hx y hy
theorem HInv.takeB (I : HInv L a b out na nb) (sb : SrtL L b) (hm : m ≤ nb) (h : ∀ x ∈ (b.take nb).drop m, ∀ y ∈ a.take na, L x y = false) : HInv L a b (out ++ ((b.take nb).drop m).reverse) na m := by
 have e : b.take nb = b.take m ++ (b.take nb).drop m := by
  have := List.take_append_drop m (b.take nb)
  rw [List.take_take, Nat.min_eq_left hm] at this
  exact this.symm
 have sd : SrtL L (b.take nb) := sb.sublist (List.take_sublist _ _)
 refine ⟨?_, ?_, ?_⟩
 · refine List.Perm.trans ?_ I.perm
   rw [List.reverse_append, List.reverse_reverse]
   conv => rhs; rw [e]
   simp only [List.append_assoc]
   exact List.Perm.refl _
 · rw [List.reverse_append, List.reverse_reverse]
   refine zaV (sd.sublist (List.drop_sublist _ _)) I.srt fun x hx y hy => ?_
   exact I.le y (List.mem_reverse.mp hy) x (List.mem_append_right _ (List.mem_of_mem_drop hx))
 · intro x hx y hy
   rcases List.mem_append.mp hx with hx | hx
   · refine I.le x hx y ?_
     rcases List.mem_append.mp hy with hy | hy
     · exact List.mem_append_left _ hy
     · rw [e]; exact List.mem_append_right _ (List.mem_append_left _ hy)
   · have hx := List.mem_reverse.mp hx
     rcases List.mem_append.mp hy with hy | hy
     · exact h x hx y hy
     · rw [e] at sd
       exact (List.pairwise_append.mp sd).2.2 y hy x hx
theorem zcC {l : List α} {n : Nat} {x : α} (h : l[n]? = some x) : (l.take (n + 1)).drop n = [x] := by
 obtain ⟨hi, e⟩ := List.getElem?_eq_some_iff.mp h
 rw [List.drop_take, Nat.add_sub_cancel_left]
 exact zbU h
theorem HInv.pushA (I : HInv L a b out (m + 1) nb) (sa : SrtL L a) {x : α} (hx : a[m]? = some x) (h : ∀ y ∈ b.take nb, L x y = false) : HInv L a b (out ++ [x]) m nb := by
 have := I.takeA (m := m) sa (by omega) (by rw [zcC hx]; intro z hz; rw [List.mem_singleton.mp hz]; exact h)
 rw [zcC hx] at this
 exact this
theorem HInv.pushB (I : HInv L a b out na (m + 1)) (sb : SrtL L b) {x : α} (hx : b[m]? = some x) (h : ∀ y ∈ a.take na, L x y = false) : HInv L a b (out ++ [x]) na m := by
 have := I.takeB (m := m) sb (by omega) (by rw [zcC hx]; intro z hz; rw [List.mem_singleton.mp hz]; exact h)
 rw [zcC hx] at this
 exact this
theorem HInv.done (I : HInv L a b out na nb) (sa : SrtL L a) (sb : SrtL L b) (h : na = 0 ∨ nb = 0) : (a.take na ++ b.take nb ++ out.reverse).Perm (a ++ b) ∧ SrtL L (a.take na ++ b.take nb ++ out.reverse) := by
 refine ⟨I.perm, zaV ?_ I.srt fun x hx y hy => I.le y (List.mem_reverse.mp hy) x hx⟩
 rcases h with rfl | rfl
 · rw [List.take_zero, List.nil_append]; exact sb.sublist (List.take_sublist _ _)
 · rw [List.take_zero, List.append_nil]; exact sa.sublist (List.take_sublist _ _)
theorem HInv.first (I : HInv L a b out na nb) (sa : SrtL L a) {z : α} (hz : b.take nb = [z]) (h : ∀ y ∈ a, L y z = false) : (b.take nb ++ a.take na ++ out.reverse).Perm (a ++ b) ∧ SrtL L (b.take nb ++ a.take na ++ out.reverse) := by
 refine ⟨(List.Perm.append_right _ List.perm_append_comm).trans I.perm, ?_⟩
 refine zaV (zaV (by rw [hz]; simp) (sa.sublist (List.take_sublist _ _)) fun x hx y hy => ?_) I.srt fun x hx y hy => I.le y (List.mem_reverse.mp hy) x ?_
 · rw [hz] at hx
   rw [List.mem_singleton.mp hx]
   exact h y (List.mem_of_mem_take hy)
 · rcases List.mem_append.mp hx with hx | hx
   · exact List.mem_append_right _ hx
   · exact List.mem_append_left _ hx
end
def zek : Array Keyed → Array Keyed → StateT SortSt Sem (Array Keyed) := sortPriv% PySem.Builtin.mergeHi
theorem zfO (a b : Array Keyed) : zek a b = (do
 rule "list.sort.merge-hi"
 let total := a.size + b.size
 let done (out : Array Keyed) (na nb : Nat) := a.extract 0 na ++ b.extract 0 nb ++ out.reverse
 let firstOfB (out : Array Keyed) (na nb : Nat) := b.extract 0 nb ++ a.extract 0 na ++ out.reverse
 let mut na := a.size - 1
 let mut nb := b.size
 let mut out : Array Keyed := #[← elem' a na]
 if na == 0 then return done out na nb
 if nb == 1 then return firstOfB out na nb
 let mut minGallop := gallopOf (← get)
 for _ in [0:total] do
  let mut acount := 0
  let mut bcount := 0
  for _ in [0:total] do
   let some aWins ← lt' (← elem' b (nb - 1)) (← elem' a (na - 1)) | return done out na nb
   if aWins then
    na := na - 1; out := out.push (← elem' a na); acount := acount + 1; bcount := 0
    if na == 0 then return done out na nb
    if acount ≥ minGallop then break
   else
    nb := nb - 1; out := out.push (← elem' b nb); bcount := bcount + 1; acount := 0
    if nb == 1 then return firstOfB out na nb
    if bcount ≥ minGallop then break
  rule "list.sort.gallop"
  minGallop := minGallop + 1
  for _ in [0:total] do
   if minGallop > 1 then minGallop := minGallop - 1
   zaK minGallop
   let some at_ ← zbJ false (← elem' b (nb - 1)) a 0 na (na - 1) | return done out na nb
   let k := na - at_
   acount := k
   if k > 0 then
    out := out ++ (a.extract at_ na).reverse; na := at_
    if na == 0 then return done out na nb
   nb := nb - 1; out := out.push (← elem' b nb)
   if nb == 1 then return firstOfB out na nb
   let some at_ ← zbJ true (← elem' a (na - 1)) b 0 nb (nb - 1) | return done out na nb
   let k := nb - at_
   bcount := k
   if k > 0 then
    out := out ++ (b.extract at_ nb).reverse; nb := at_
    if nb == 1 then return firstOfB out na nb
    if nb == 0 then return done out na nb
   na := na - 1; out := out.push (← elem' a na)
   if na == 0 then return done out na nb
   if acount < 7 && bcount < 7 then break
  minGallop := minGallop + 1
  zaK minGallop
 unsupported "internal:list.sort.merge-bound") := rfl
section
variable {prog : Program} {w : World} {A : Around} {E : Value → Shared → Prop} {s : Shared} {κ : SortKind} {L : Keyed → Keyed → Bool} {S : Keyed → Prop}
variable {a b out : Array Keyed} {na nb : Nat}
abbrev HI (L : Keyed → Keyed → Bool) (a b out : Array Keyed) (na nb : Nat) : Prop := HInv L a.toList b.toList out.toList na nb
theorem ziT (a : Array Keyed) (k : Nat) : (a.extract 0 k).toList = a.toList.take k := by
 rw [Array.toList_extract, List.extract_eq_drop_take, List.drop_zero, Nat.sub_zero]
theorem zfU (a : Array Keyed) (m n : Nat) : (a.extract m n).toList = (a.toList.take n).drop m := by
 rw [Array.toList_extract, List.extract_eq_drop_take, List.drop_take]
theorem resD (I : HI L a b out na nb) (sa : SrtL L a.toList) (sb : SrtL L b.toList) (h : na = 0 ∨ nb = 0) : Res L a b (a.extract 0 na ++ b.extract 0 nb ++ out.reverse) := by
 unfold Res
 rw [Array.toList_append, Array.toList_append, ziT, ziT, Array.toList_reverse]
 exact I.done sa sb h
theorem resF (I : HI L a b out na nb) (sa : SrtL L a.toList) (h : nb = 1) (hb : 1 ≤ b.size) (hf : ∀ y, b[0]? = some y → ∀ x ∈ a.toList, L x y = false) : Res L a b (b.extract 0 nb ++ a.extract 0 na ++ out.reverse) := by
 unfold Res
 rw [Array.toList_append, Array.toList_append, ziT, ziT, Array.toList_reverse]
 obtain ⟨x, e1, e2, _⟩ := zaI (a := b) (i := 0) (by omega)
 refine I.first sa (z := x) ?_ (hf x e1)
 subst h
 have := zbU e2
 rw [List.drop_zero] at this
 exact this
theorem zcc (O : LOrd L) {l : List Keyed} (sl : SrtL L l) {m : Nat} {x : Keyed} (h : l[m]? = some x) : ∀ z ∈ l.take (m + 1), L x z = false := by
 intro z hz
 obtain ⟨hi, e⟩ := List.getElem?_eq_some_iff.mp h
 rw [zar h] at hz
 rcases List.mem_append.mp hz with hz | hz
 · obtain ⟨j, hj, ej⟩ := List.mem_iff_getElem.mp hz
   rw [List.length_take] at hj
   rw [List.getElem_take] at ej
   have := List.pairwise_iff_getElem.mp sl j m (by omega) hi (by omega)
   rw [e, ej] at this
   exact this
 · rw [List.mem_singleton.mp hz]; exact O.irr _
theorem zcI {l : List Keyed} {m n : Nat} {x : Keyed} (h : x ∈ (l.take n).drop m) : ∃ j, m ≤ j ∧ j < n ∧ l[j]? = some x := by
 obtain ⟨j, h1, h2, h3⟩ := zaY h
 rw [List.length_take] at h2
 rw [List.getElem?_take] at h3
 split at h3
 · exact ⟨j, h1, by omega, h3⟩
 · cases h3
theorem zb1 {l : List Keyed} {n : Nat} {x : Keyed} (h : x ∈ l.take n) : ∃ j, j < n ∧ l[j]? = some x := by
 obtain ⟨j, _, h2, h3⟩ := zcI (m := 0) (by rw [List.drop_zero]; exact h)
 exact ⟨j, h2, h3⟩
theorem zgH (O : LOrd L) (K : Asks prog w A E s κ L S) {st : SortSt} {Q : Array Keyed → SortSt → Prop} (hk : kindOf st = κ) (hSa : ∀ x ∈ a.toList, S x) (hSb : ∀ x ∈ b.toList, S x) (sa : SrtL L a.toList) (sb : SrtL L b.toList) (ha : 1 ≤ a.size) (hb : 1 ≤ b.size)
 (hf : ∀ y, b[0]? = some y → ∀ x ∈ a.toList, L x y = false) (hl : ∀ z, a[a.size - 1]? = some z → ∀ y ∈ b.toList, L z y = false) (q : ∀ o st', StG st st' → Res L a b o → Q o st') : wpS (model prog w) A E s (zek a b) Q st := by
 rw [zfO]
 dsimp only
 refine wpS_bind (zcx ?_)
 obtain ⟨n0, hn0⟩ : ∃ n0, a.size = n0 + 1 := ⟨a.size - 1, by omega⟩
 have hn1 : a.size - 1 = n0 := by omega
 rw [hn1] at hl ⊢
 obtain ⟨z0, e0, e0', m0⟩ := zaI (a := a) (i := n0) (by omega)
 refine wpS_bind (zaD e0 ?_)
 have I0 : HI L a b #[z0] n0 b.size := by
  have z : HI L a b #[] (n0 + 1) b.size := ⟨by rw [List.take_of_length_le (by simp; omega), List.take_of_length_le (by simp)]; simp, by simp, by simp⟩
  exact z.pushA sa e0' (fun y hy => hl z0 e0 y (List.mem_of_mem_take hy))
 by_cases h1 : n0 = 0
 · rw [if_pos (by simpa using h1)]
   exact wpS_pure (q _ _ ⟨_, rfl⟩ (resD I0 sa sb (.inl h1)))
 rw [if_neg (by simpa using h1)]
 by_cases h2 : b.size = 1
 · rw [if_pos (by simpa using h2)]
   exact wpS_pure (q _ _ ⟨_, rfl⟩ (resF I0 sa h2 hb hf))
 rw [if_neg (by simpa using h2)]
 refine wpS_bind (wpS_get ?_)
 refine wpS_bind (wpS_mono (wpS_forRange
  (I := fun x c st' => StG st st' ∧ ∃ o i j g, c = (none, i, j, o, g) ∧ HI L a b o i j ∧ 1 ≤ i ∧ 2 ≤ j ∧ i ≤ a.size ∧ j ≤ b.size ∧ x + i + j + 1 ≤ a.size + b.size)
  (Q := fun c st' => StG st st' ∧ ∃ o, c.1 = some o ∧ Res L a b o) ?step ?fin ⟨⟨_, rfl⟩, _, _, _, _, rfl, I0, by omega, by omega, by omega, by omega, by omega⟩) ?post)
 case fin =>
  rintro c st' ⟨_, o, i, j, g, rfl, I, h3, h4, h5, h6, h7⟩
  omega
 case post =>
  rintro c st' ⟨hst, o, e, r⟩
  rw [e]
  exact wpS_pure (q _ _ hst r)
 case step =>
  rintro x c st1 _ hx ⟨hs1, o1, i1, j1, g1, rfl, I1, a1, b1, a1', b1', c1⟩
  dsimp only
  refine wpS_bind (wpS_mono (wpS_forRange
   (I := fun y c st' => st' = st1 ∧ ∃ o i j p r, c = (none, i, j, o, p, r) ∧ HI L a b o i j ∧ 1 ≤ i ∧ 2 ≤ j ∧ i ≤ a.size ∧ j ≤ b.size ∧ y + i + j ≤ i1 + j1)
   (Q := fun c st' => st' = st1 ∧ ((∃ o, c.1 = some o ∧ Res L a b o) ∨ ∃ o i j p r, c = (none, i, j, o, p, r) ∧ HI L a b o i j ∧ 1 ≤ i ∧ 2 ≤ j ∧ i ≤ a.size ∧ j ≤ b.size ∧ i + j + 1 ≤ i1 + j1)) ?step1 ?fin1 ⟨rfl, _, _, _, _, _, rfl, I1, a1, b1, a1', b1', by omega⟩) ?post1)
  case fin1 =>
   rintro c st' ⟨_, o, i, j, p, r, rfl, I, h3, h4, h5, h6, h7⟩
   omega
  case step1 =>
   rintro y c st' _ hy ⟨rfl, o, i, j, p, r, rfl, I, h3, h4, h3', h4', h5⟩
   obtain ⟨i', rfl⟩ : ∃ i', i = i' + 1 := ⟨i - 1, by omega⟩
   obtain ⟨j', rfl⟩ : ∃ j', j = j' + 1 := ⟨j - 1, by omega⟩
   dsimp only
   simp only [Nat.add_sub_cancel]
   obtain ⟨vb, eb, eb', mb⟩ := zaI (a := b) (i := j') (by omega)
   obtain ⟨va, ea, ea', ma⟩ := zaI (a := a) (i := i') (by omega)
   refine wpS_bind (zaD eb (wpS_bind (zaD ea (wpS_bind (K vb va _ _ (hSb _ mb) (hSa _ ma) (hs1.kind hk) ?_)))))
   dsimp only
   cases hw : L vb va with
   | true =>
    rw [if_pos rfl]
    refine wpS_bind (zaD ea ?_)
    have I' : HI L a b (o.push va) i' (j' + 1) := by
     have := I.pushA sa ea' fun z hz => O.ntr va vb z (O.asym _ _ hw) (zcc O sb eb' z hz)
     unfold HI
     rw [Array.toList_push]
     exact this
    by_cases h6 : i' = 0
    · rw [if_pos (by simpa using h6)]
      exact wpS_pure ⟨rfl, .inl ⟨_, rfl, resD I' sa sb (.inl h6)⟩⟩
    rw [if_neg (by simpa using h6)]
    by_cases h7 : p + 1 ≥ g1
    · rw [if_pos h7]
      exact wpS_pure ⟨rfl, .inr ⟨_, _, _, _, _, rfl, I', by omega, h4, by omega, h4', by omega⟩⟩
    · rw [if_neg h7]
      exact wpS_pure ⟨rfl, _, _, _, _, _, rfl, I', by omega, h4, by omega, h4', by omega⟩
   | false =>
    rw [if_neg (by simp)]
    refine wpS_bind (zaD eb ?_)
    have I' : HI L a b (o.push vb) (i' + 1) j' := by
     have := I.pushB sb eb' fun z hz => O.ntr vb va z hw (zcc O sa ea' z hz)
     unfold HI
     rw [Array.toList_push]
     exact this
    by_cases h6 : j' = 1
    · rw [if_pos (by simpa using h6)]
      exact wpS_pure ⟨rfl, .inl ⟨_, rfl, resF I' sa h6 hb hf⟩⟩
    rw [if_neg (by simpa using h6)]
    by_cases h7 : r + 1 ≥ g1
    · rw [if_pos h7]
      exact wpS_pure ⟨rfl, .inr ⟨_, _, _, _, _, rfl, I', h3, by omega, h3', by omega, by omega⟩⟩
    · rw [if_neg h7]
      exact wpS_pure ⟨rfl, _, _, _, _, _, rfl, I', h3, by omega, h3', by omega, by omega⟩
  case post1 =>
   rintro c st' ⟨rfl, (⟨o, e, r⟩ | ⟨o, i, j, p, r, rfl, I, h3, h4, h3', h4', h5⟩)⟩
   · rw [e]
     exact wpS_pure ⟨hs1, _, rfl, r⟩
   dsimp only
   refine wpS_bind (zcx ?_)
   refine wpS_bind (wpS_mono (wpS_forRange
    (I := fun y c st' => StG st st' ∧ ∃ o' i' j' g' p' r', c = (none, i', j', o', g', p', r') ∧ HI L a b o' i' j' ∧ 1 ≤ i' ∧ 2 ≤ j' ∧ i' ≤ a.size ∧ j' ≤ b.size ∧ y + i' + j' ≤ i + j)
    (Q := fun c st' => StG st st' ∧ ((∃ o', c.1 = some o' ∧ Res L a b o') ∨ ∃ o' i' j' g' p' r', c = (none, i', j', o', g', p', r') ∧ HI L a b o' i' j' ∧ 1 ≤ i' ∧ 2 ≤ j' ∧ i' ≤ a.size ∧ j' ≤ b.size ∧ i' + j' ≤ i + j)) ?step2 ?fin2 ⟨hs1, _, _, _, _, _, _, rfl, I, h3, h4, h3', h4', by omega⟩) ?post2)
   case fin2 =>
    rintro c st' ⟨_, o', i', j', g', p', r', rfl, I', h6, h7, h8, h9, h10⟩
    omega
   case post2 =>
    rintro c st' ⟨hs2, (⟨o', e, r'⟩ | ⟨o', i', j', g', p', r', rfl, I', h6, h7, h8, h9, h10⟩)⟩
    · rw [e]
      exact wpS_pure ⟨hs2, _, rfl, r'⟩
    dsimp only
    refine wpS_bind (zcQ hs2 fun st3 hs3 => ?_)
    exact wpS_pure ⟨hs3, _, _, _, _, rfl, I', h6, h7, h8, h9, by omega⟩
   case step2 =>
    rintro y c st' _ hy ⟨hs2, o2, i2, j2, g2, p2, r2, rfl, I2, h6, h7, h6', h7', h8⟩
    obtain ⟨i', rfl⟩ : ∃ i', i2 = i' + 1 := ⟨i2 - 1, by omega⟩
    obtain ⟨j', rfl⟩ : ∃ j', j2 = j' + 1 := ⟨j2 - 1, by omega⟩
    dsimp only
    simp only [Nat.add_sub_cancel]
    by_cases hg : g2 > 1
    · rw [if_pos hg]
      refine wpS_bind (zcQ hs2 fun st3 hs3 => ?_)
      obtain ⟨vb, eb, eb', mb⟩ := zaI (a := b) (i := j') (by omega)
      refine wpS_bind (zaD eb (wpS_bind (zb2 O K (hs3.kind hk) hSa (hSb _ mb) sa (by omega) (by omega) fun k hkn hyes hno => ?_)))
      have yes : ∀ (n : Nat) x, n < k → a.toList[n]? = some x → L vb x = false := fun n x h1 h2 => by simpa using hyes n x h1 (by simpa using h2)
      have no : ∀ (n : Nat) x, k ≤ n → n < i' + 1 → a.toList[n]? = some x → L vb x = true := fun n x h1 h2 h3 => by simpa using hno n x h1 h2 (by simpa using h3)
      have hle : ∀ z ∈ a.toList.take k, L vb z = false := fun z hz => by
       obtain ⟨n, n1, n2⟩ := zb1 hz
       exact yes n z n1 n2
      dsimp only
      by_cases hk0 : i' + 1 - k > 0
      · rw [if_pos hk0]
        have I' : HI L a b (o2 ++ (a.extract k (i' + 1)).reverse) k (j' + 1) := by
         have := I2.takeA (m := k) sa hkn fun z hz v hv => by
          obtain ⟨n, n1, n2, n3⟩ := zcI hz
          exact O.ntr z vb v (O.asym _ _ (no n z n1 n2 n3)) (zcc O sb eb' v hv)
         unfold HI
         rw [Array.toList_append, Array.toList_reverse, zfU]
         exact this
        by_cases h9 : k = 0
        · rw [if_pos (by simpa using h9)]
          exact wpS_pure ⟨hs3, .inl ⟨_, rfl, resD I' sa sb (.inl h9)⟩⟩
        rw [if_neg (by simpa using h9)]
        obtain ⟨ia', rfl⟩ : ∃ m, k = m + 1 := ⟨k - 1, by omega⟩
        simp only [Nat.add_sub_cancel]
        refine wpS_bind (zaD eb ?_)
        have I3 : HI L a b ((o2 ++ (a.extract (ia' + 1) (i' + 1)).reverse).push vb) (ia' + 1) j' := by
         have := I'.pushB sb eb' hle
         unfold HI
         rw [Array.toList_push]
         exact this
        by_cases h11 : j' = 1
        · rw [if_pos (by simpa using h11)]
          exact wpS_pure ⟨hs3, .inl ⟨_, rfl, resF I3 sa h11 hb hf⟩⟩
        rw [if_neg (by simpa using h11)]
        obtain ⟨va, ea, ea', ma⟩ := zaI (a := a) (i := ia') (by omega)
        refine wpS_bind (zaD ea (wpS_bind (zb2 O K (hs3.kind hk) hSb (hSa _ ma) sb (by omega) (by omega) fun k2 hkn2 hyes2 hno2 => ?_)))
        have yes2 : ∀ (n : Nat) x, n < k2 → b.toList[n]? = some x → L x va = true := fun n x h1 h2 => by simpa using hyes2 n x h1 (by simpa using h2)
        have no2 : ∀ (n : Nat) x, k2 ≤ n → n < j' → b.toList[n]? = some x → L x va = false := fun n x h1 h2 h3 => by simpa using hno2 n x h1 h2 (by simpa using h3)
        dsimp only
        by_cases hk2 : j' - k2 > 0
        · rw [if_pos hk2]
          have I4 : HI L a b ((o2 ++ (a.extract (ia' + 1) (i' + 1)).reverse).push vb ++ (b.extract k2 j').reverse) (ia' + 1) k2 := by
           have := I3.takeB (m := k2) sb hkn2 fun z hz v hv => by
            obtain ⟨n, n1, n2, n3⟩ := zcI hz
            exact O.ntr z va v (no2 n z n1 n2 n3) (zcc O sa ea' v hv)
           unfold HI
           rw [Array.toList_append, Array.toList_reverse, zfU]
           exact this
          by_cases h12 : k2 = 1
          · rw [if_pos (by simpa using h12)]
            exact wpS_pure ⟨hs3, .inl ⟨_, rfl, resF I4 sa h12 hb hf⟩⟩
          rw [if_neg (by simpa using h12)]
          by_cases h14 : k2 = 0
          · rw [if_pos (by simpa using h14)]
            exact wpS_pure ⟨hs3, .inl ⟨_, rfl, resD I4 sa sb (.inr h14)⟩⟩
          rw [if_neg (by simpa using h14)]
          refine wpS_bind (zaD ea ?_)
          have I5 : HI L a b (((o2 ++ (a.extract (ia' + 1) (i' + 1)).reverse).push vb ++ (b.extract k2 j').reverse).push va) ia' (k2) := by
           have := I4.pushA sa ea' fun z hz => by
            obtain ⟨n, n1, n2⟩ := zb1 hz
            exact O.asym _ _ (yes2 n z (by omega) n2)
           unfold HI
           rw [Array.toList_push]
           exact this
          by_cases h13 : ia' = 0
          · rw [if_pos (by simpa using h13)]
            exact wpS_pure ⟨hs3, .inl ⟨_, rfl, resD I5 sa sb (.inl h13)⟩⟩
          rw [if_neg (by simpa using h13)]
          split
          · exact wpS_pure ⟨hs3, .inr ⟨_, _, _, _, _, _, rfl, I5, by omega, by omega, by omega, by omega, by omega⟩⟩
          · exact wpS_pure ⟨hs3, _, _, _, _, _, _, rfl, I5, by omega, by omega, by omega, by omega, by omega⟩
        · rw [if_neg hk2]
          obtain rfl : k2 = j' := by omega
          have I4 := I3
          refine wpS_bind (zaD ea ?_)
          have I5 : HI L a b (((o2 ++ (a.extract (ia' + 1) (i' + 1)).reverse).push vb).push va) ia' (k2) := by
           have := I4.pushA sa ea' fun z hz => by
            obtain ⟨n, n1, n2⟩ := zb1 hz
            exact O.asym _ _ (yes2 n z (by omega) n2)
           unfold HI
           rw [Array.toList_push]
           exact this
          by_cases h13 : ia' = 0
          · rw [if_pos (by simpa using h13)]
            exact wpS_pure ⟨hs3, .inl ⟨_, rfl, resD I5 sa sb (.inl h13)⟩⟩
          rw [if_neg (by simpa using h13)]
          split
          · exact wpS_pure ⟨hs3, .inr ⟨_, _, _, _, _, _, rfl, I5, by omega, by omega, by omega, by omega, by omega⟩⟩
          · exact wpS_pure ⟨hs3, _, _, _, _, _, _, rfl, I5, by omega, by omega, by omega, by omega, by omega⟩
      · rw [if_neg hk0]
        obtain rfl : k = i' + 1 := by omega
        have I' := I2
        refine wpS_bind (zaD eb ?_)
        have I3 : HI L a b (o2.push vb) (i' + 1) j' := by
         have := I'.pushB sb eb' hle
         unfold HI
         rw [Array.toList_push]
         exact this
        by_cases h11 : j' = 1
        · rw [if_pos (by simpa using h11)]
          exact wpS_pure ⟨hs3, .inl ⟨_, rfl, resF I3 sa h11 hb hf⟩⟩
        rw [if_neg (by simpa using h11)]
        obtain ⟨va, ea, ea', ma⟩ := zaI (a := a) (i := i') (by omega)
        refine wpS_bind (zaD ea (wpS_bind (zb2 O K (hs3.kind hk) hSb (hSa _ ma) sb (by omega) (by omega) fun k2 hkn2 hyes2 hno2 => ?_)))
        have yes2 : ∀ (n : Nat) x, n < k2 → b.toList[n]? = some x → L x va = true := fun n x h1 h2 => by simpa using hyes2 n x h1 (by simpa using h2)
        have no2 : ∀ (n : Nat) x, k2 ≤ n → n < j' → b.toList[n]? = some x → L x va = false := fun n x h1 h2 h3 => by simpa using hno2 n x h1 h2 (by simpa using h3)
        dsimp only
        by_cases hk2 : j' - k2 > 0
        · rw [if_pos hk2]
          have I4 : HI L a b (o2.push vb ++ (b.extract k2 j').reverse) (i' + 1) k2 := by
           have := I3.takeB (m := k2) sb hkn2 fun z hz v hv => by
            obtain ⟨n, n1, n2, n3⟩ := zcI hz
            exact O.ntr z va v (no2 n z n1 n2 n3) (zcc O sa ea' v hv)
           unfold HI
           rw [Array.toList_append, Array.toList_reverse, zfU]
           exact this
          by_cases h12 : k2 = 1
          · rw [if_pos (by simpa using h12)]
            exact wpS_pure ⟨hs3, .inl ⟨_, rfl, resF I4 sa h12 hb hf⟩⟩
          rw [if_neg (by simpa using h12)]
          by_cases h14 : k2 = 0
          · rw [if_pos (by simpa using h14)]
            exact wpS_pure ⟨hs3, .inl ⟨_, rfl, resD I4 sa sb (.inr h14)⟩⟩
          rw [if_neg (by simpa using h14)]
          refine wpS_bind (zaD ea ?_)
          have I5 : HI L a b ((o2.push vb ++ (b.extract k2 j').reverse).push va) i' (k2) := by
           have := I4.pushA sa ea' fun z hz => by
            obtain ⟨n, n1, n2⟩ := zb1 hz
            exact O.asym _ _ (yes2 n z (by omega) n2)
           unfold HI
           rw [Array.toList_push]
           exact this
          by_cases h13 : i' = 0
          · rw [if_pos (by simpa using h13)]
            exact wpS_pure ⟨hs3, .inl ⟨_, rfl, resD I5 sa sb (.inl h13)⟩⟩
          rw [if_neg (by simpa using h13)]
          split
          · exact wpS_pure ⟨hs3, .inr ⟨_, _, _, _, _, _, rfl, I5, by omega, by omega, by omega, by omega, by omega⟩⟩
          · exact wpS_pure ⟨hs3, _, _, _, _, _, _, rfl, I5, by omega, by omega, by omega, by omega, by omega⟩
        · rw [if_neg hk2]
          obtain rfl : k2 = j' := by omega
          have I4 := I3
          refine wpS_bind (zaD ea ?_)
          have I5 : HI L a b ((o2.push vb).push va) i' (k2) := by
           have := I4.pushA sa ea' fun z hz => by
            obtain ⟨n, n1, n2⟩ := zb1 hz
            exact O.asym _ _ (yes2 n z (by omega) n2)
           unfold HI
           rw [Array.toList_push]
           exact this
          by_cases h13 : i' = 0
          · rw [if_pos (by simpa using h13)]
            exact wpS_pure ⟨hs3, .inl ⟨_, rfl, resD I5 sa sb (.inl h13)⟩⟩
          rw [if_neg (by simpa using h13)]
          split
          · exact wpS_pure ⟨hs3, .inr ⟨_, _, _, _, _, _, rfl, I5, by omega, by omega, by omega, by omega, by omega⟩⟩
          · exact wpS_pure ⟨hs3, _, _, _, _, _, _, rfl, I5, by omega, by omega, by omega, by omega, by omega⟩
    · rw [if_neg hg]
      refine wpS_bind (zcQ hs2 fun st3 hs3 => ?_)
      obtain ⟨vb, eb, eb', mb⟩ := zaI (a := b) (i := j') (by omega)
      refine wpS_bind (zaD eb (wpS_bind (zb2 O K (hs3.kind hk) hSa (hSb _ mb) sa (by omega) (by omega) fun k hkn hyes hno => ?_)))
      have yes : ∀ (n : Nat) x, n < k → a.toList[n]? = some x → L vb x = false := fun n x h1 h2 => by simpa using hyes n x h1 (by simpa using h2)
      have no : ∀ (n : Nat) x, k ≤ n → n < i' + 1 → a.toList[n]? = some x → L vb x = true := fun n x h1 h2 h3 => by simpa using hno n x h1 h2 (by simpa using h3)
      have hle : ∀ z ∈ a.toList.take k, L vb z = false := fun z hz => by
       obtain ⟨n, n1, n2⟩ := zb1 hz
       exact yes n z n1 n2
      dsimp only
      by_cases hk0 : i' + 1 - k > 0
      · rw [if_pos hk0]
        have I' : HI L a b (o2 ++ (a.extract k (i' + 1)).reverse) k (j' + 1) := by
         have := I2.takeA (m := k) sa hkn fun z hz v hv => by
          obtain ⟨n, n1, n2, n3⟩ := zcI hz
          exact O.ntr z vb v (O.asym _ _ (no n z n1 n2 n3)) (zcc O sb eb' v hv)
         unfold HI
         rw [Array.toList_append, Array.toList_reverse, zfU]
         exact this
        by_cases h9 : k = 0
        · rw [if_pos (by simpa using h9)]
          exact wpS_pure ⟨hs3, .inl ⟨_, rfl, resD I' sa sb (.inl h9)⟩⟩
        rw [if_neg (by simpa using h9)]
        obtain ⟨ia', rfl⟩ : ∃ m, k = m + 1 := ⟨k - 1, by omega⟩
        simp only [Nat.add_sub_cancel]
        refine wpS_bind (zaD eb ?_)
        have I3 : HI L a b ((o2 ++ (a.extract (ia' + 1) (i' + 1)).reverse).push vb) (ia' + 1) j' := by
         have := I'.pushB sb eb' hle
         unfold HI
         rw [Array.toList_push]
         exact this
        by_cases h11 : j' = 1
        · rw [if_pos (by simpa using h11)]
          exact wpS_pure ⟨hs3, .inl ⟨_, rfl, resF I3 sa h11 hb hf⟩⟩
        rw [if_neg (by simpa using h11)]
        obtain ⟨va, ea, ea', ma⟩ := zaI (a := a) (i := ia') (by omega)
        refine wpS_bind (zaD ea (wpS_bind (zb2 O K (hs3.kind hk) hSb (hSa _ ma) sb (by omega) (by omega) fun k2 hkn2 hyes2 hno2 => ?_)))
        have yes2 : ∀ (n : Nat) x, n < k2 → b.toList[n]? = some x → L x va = true := fun n x h1 h2 => by simpa using hyes2 n x h1 (by simpa using h2)
        have no2 : ∀ (n : Nat) x, k2 ≤ n → n < j' → b.toList[n]? = some x → L x va = false := fun n x h1 h2 h3 => by simpa using hno2 n x h1 h2 (by simpa using h3)
        dsimp only
        by_cases hk2 : j' - k2 > 0
        · rw [if_pos hk2]
          have I4 : HI L a b ((o2 ++ (a.extract (ia' + 1) (i' + 1)).reverse).push vb ++ (b.extract k2 j').reverse) (ia' + 1) k2 := by
           have := I3.takeB (m := k2) sb hkn2 fun z hz v hv => by
            obtain ⟨n, n1, n2, n3⟩ := zcI hz
            exact O.ntr z va v (no2 n z n1 n2 n3) (zcc O sa ea' v hv)
           unfold HI
           rw [Array.toList_append, Array.toList_reverse, zfU]
           exact this
          by_cases h12 : k2 = 1
          · rw [if_pos (by simpa using h12)]
            exact wpS_pure ⟨hs3, .inl ⟨_, rfl, resF I4 sa h12 hb hf⟩⟩
          rw [if_neg (by simpa using h12)]
          by_cases h14 : k2 = 0
          · rw [if_pos (by simpa using h14)]
            exact wpS_pure ⟨hs3, .inl ⟨_, rfl, resD I4 sa sb (.inr h14)⟩⟩
          rw [if_neg (by simpa using h14)]
          refine wpS_bind (zaD ea ?_)
          have I5 : HI L a b (((o2 ++ (a.extract (ia' + 1) (i' + 1)).reverse).push vb ++ (b.extract k2 j').reverse).push va) ia' (k2) := by
           have := I4.pushA sa ea' fun z hz => by
            obtain ⟨n, n1, n2⟩ := zb1 hz
            exact O.asym _ _ (yes2 n z (by omega) n2)
           unfold HI
           rw [Array.toList_push]
           exact this
          by_cases h13 : ia' = 0
          · rw [if_pos (by simpa using h13)]
            exact wpS_pure ⟨hs3, .inl ⟨_, rfl, resD I5 sa sb (.inl h13)⟩⟩
          rw [if_neg (by simpa using h13)]
          split
          · exact wpS_pure ⟨hs3, .inr ⟨_, _, _, _, _, _, rfl, I5, by omega, by omega, by omega, by omega, by omega⟩⟩
          · exact wpS_pure ⟨hs3, _, _, _, _, _, _, rfl, I5, by omega, by omega, by omega, by omega, by omega⟩
        · rw [if_neg hk2]
          obtain rfl : k2 = j' := by omega
          have I4 := I3
          refine wpS_bind (zaD ea ?_)
          have I5 : HI L a b (((o2 ++ (a.extract (ia' + 1) (i' + 1)).reverse).push vb).push va) ia' (k2) := by
           have := I4.pushA sa ea' fun z hz => by
            obtain ⟨n, n1, n2⟩ := zb1 hz
            exact O.asym _ _ (yes2 n z (by omega) n2)
           unfold HI
           rw [Array.toList_push]
           exact this
          by_cases h13 : ia' = 0
          · rw [if_pos (by simpa using h13)]
            exact wpS_pure ⟨hs3, .inl ⟨_, rfl, resD I5 sa sb (.inl h13)⟩⟩
          rw [if_neg (by simpa using h13)]
          split
          · exact wpS_pure ⟨hs3, .inr ⟨_, _, _, _, _, _, rfl, I5, by omega, by omega, by omega, by omega, by omega⟩⟩
          · exact wpS_pure ⟨hs3, _, _, _, _, _, _, rfl, I5, by omega, by omega, by omega, by omega, by omega⟩
      · rw [if_neg hk0]
        obtain rfl : k = i' + 1 := by omega
        have I' := I2
        refine wpS_bind (zaD eb ?_)
        have I3 : HI L a b (o2.push vb) (i' + 1) j' := by
         have := I'.pushB sb eb' hle
         unfold HI
         rw [Array.toList_push]
         exact this
        by_cases h11 : j' = 1
        · rw [if_pos (by simpa using h11)]
          exact wpS_pure ⟨hs3, .inl ⟨_, rfl, resF I3 sa h11 hb hf⟩⟩
        rw [if_neg (by simpa using h11)]
        obtain ⟨va, ea, ea', ma⟩ := zaI (a := a) (i := i') (by omega)
        refine wpS_bind (zaD ea (wpS_bind (zb2 O K (hs3.kind hk) hSb (hSa _ ma) sb (by omega) (by omega) fun k2 hkn2 hyes2 hno2 => ?_)))
        have yes2 : ∀ (n : Nat) x, n < k2 → b.toList[n]? = some x → L x va = true := fun n x h1 h2 => by simpa using hyes2 n x h1 (by simpa using h2)
        have no2 : ∀ (n : Nat) x, k2 ≤ n → n < j' → b.toList[n]? = some x → L x va = false := fun n x h1 h2 h3 => by simpa using hno2 n x h1 h2 (by simpa using h3)
        dsimp only
        by_cases hk2 : j' - k2 > 0
        · rw [if_pos hk2]
          have I4 : HI L a b (o2.push vb ++ (b.extract k2 j').reverse) (i' + 1) k2 := by
           have := I3.takeB (m := k2) sb hkn2 fun z hz v hv => by
            obtain ⟨n, n1, n2, n3⟩ := zcI hz
            exact O.ntr z va v (no2 n z n1 n2 n3) (zcc O sa ea' v hv)
           unfold HI
           rw [Array.toList_append, Array.toList_reverse, zfU]
           exact this
          by_cases h12 : k2 = 1
          · rw [if_pos (by simpa using h12)]
            exact wpS_pure ⟨hs3, .inl ⟨_, rfl, resF I4 sa h12 hb hf⟩⟩
          rw [if_neg (by simpa using h12)]
          by_cases h14 : k2 = 0
          · rw [if_pos (by simpa using h14)]
            exact wpS_pure ⟨hs3, .inl ⟨_, rfl, resD I4 sa sb (.inr h14)⟩⟩
          rw [if_neg (by simpa using h14)]
          refine wpS_bind (zaD ea ?_)
          have I5 : HI L a b ((o2.push vb ++ (b.extract k2 j').reverse).push va) i' (k2) := by
           have := I4.pushA sa ea' fun z hz => by
            obtain ⟨n, n1, n2⟩ := zb1 hz
            exact O.asym _ _ (yes2 n z (by omega) n2)
           unfold HI
           rw [Array.toList_push]
           exact this
          by_cases h13 : i' = 0
          · rw [if_pos (by simpa using h13)]
            exact wpS_pure ⟨hs3, .inl ⟨_, rfl, resD I5 sa sb (.inl h13)⟩⟩
          rw [if_neg (by simpa using h13)]
          split
          · exact wpS_pure ⟨hs3, .inr ⟨_, _, _, _, _, _, rfl, I5, by omega, by omega, by omega, by omega, by omega⟩⟩
          · exact wpS_pure ⟨hs3, _, _, _, _, _, _, rfl, I5, by omega, by omega, by omega, by omega, by omega⟩
        · rw [if_neg hk2]
          obtain rfl : k2 = j' := by omega
          have I4 := I3
          refine wpS_bind (zaD ea ?_)
          have I5 : HI L a b ((o2.push vb).push va) i' (k2) := by
           have := I4.pushA sa ea' fun z hz => by
            obtain ⟨n, n1, n2⟩ := zb1 hz
            exact O.asym _ _ (yes2 n z (by omega) n2)
           unfold HI
           rw [Array.toList_push]
           exact this
          by_cases h13 : i' = 0
          · rw [if_pos (by simpa using h13)]
            exact wpS_pure ⟨hs3, .inl ⟨_, rfl, resD I5 sa sb (.inl h13)⟩⟩
          rw [if_neg (by simpa using h13)]
          split
          · exact wpS_pure ⟨hs3, .inr ⟨_, _, _, _, _, _, rfl, I5, by omega, by omega, by omega, by omega, by omega⟩⟩
          · exact wpS_pure ⟨hs3, _, _, _, _, _, _, rfl, I5, by omega, by omega, by omega, by omega, by omega⟩
end
section
variable {prog : Program} {w : World} {A : Around} {E : Value → Shared → Prop} {s : Shared} {κ : SortKind} {L : Keyed → Keyed → Bool} {S : Keyed → Prop}
theorem zki {st st2 : SortSt} {Q : PUnit → SortSt → Prop} (q : Q ⟨⟩ st2) : wpS (model prog w) A E s (set st2 : StateT SortSt Sem PUnit) Q st := by
 unfold wpS; rw [StateT.run_set]; exact wpAny_pure ⟨rfl, q⟩
theorem zgo (O : LOrd L) (K : Asks prog w A E s κ L S) {left : Bool} {key : Keyed} {arr : Array Keyed} {base hint : Nat} {pre part post : List Keyed} {st : SortSt} {Q : Option Nat → SortSt → Prop} (hk : kindOf st = κ) (hS : ∀ x ∈ part, S x) (hkey : S key)
 (ha : arr.toList = pre ++ (part ++ post)) (hb : pre.length = base) (srt : SrtL L part) (hh : hint < part.length)
 (q : ∀ k, k ≤ part.length → (∀ x ∈ part.take k, (if left then L x key else !L key x) = true) → (∀ x ∈ part.drop k, (if left then L x key else !L key x) = false) → Q (some k) st) :
 wpS (model prog w) A E s (zbJ left key arr base part.length hint) Q st := by
 have get : ∀ i, i < part.length → ∃ x, arr[base + i]? = some x ∧ part[i]? = some x ∧ x ∈ part := fun i hi => by
  refine ⟨part[i], ?_, List.getElem?_eq_getElem hi, List.getElem_mem hi⟩
  rw [← Array.getElem?_toList, ha, ← hb, List.getElem?_append_right (by omega), Nat.add_sub_cancel_left, List.getElem?_append_left hi, List.getElem?_eq_getElem hi]
 refine zeY (fun i => match arr[base + i]? with | some x => (if left then L x key else !L key x) | none => false) (fun i hi Q' q' => ?_) (fun i j hij hj hb => ?_) hh fun k hc => q k hc.le (fun x hx => ?_) fun x hx => ?_
 · obtain ⟨x, e, _, hm⟩ := get i hi
   rw [e] at q'
   refine wpS_bind (zaD e ?_)
   cases left with
   | true => exact K x key st _ (hS x hm) hkey hk q'
   | false => exact wpS_bind (K key x st _ hkey (hS x hm) hk (wpS_pure q'))
 · obtain ⟨x, ex, ex', _⟩ := get i (by omega)
   obtain ⟨y, ey, ey', _⟩ := get j hj
   rw [ey] at hb
   show (match arr[base + i]? with | some x => (if left then L x key else !L key x) | none => false) = true
   rw [ex]
   have le : L y x = false := by
    obtain ⟨h1, e1⟩ := List.getElem?_eq_some_iff.mp ex'
    obtain ⟨h2, e2⟩ := List.getElem?_eq_some_iff.mp ey'
    have := List.pairwise_iff_getElem.mp srt i j h1 h2 hij
    rw [e1, e2] at this
    exact this
   cases left with
   | true =>
    have hb : L y key = true := hb
    show L x key = true
    cases z : L x key with
    | true => rfl
    | false => rw [O.ntr y x key le z] at hb; cases hb
   | false =>
    have hb : (!L key y) = true := hb
    show (!L key x) = true
    have hb : L key y = false := by simpa using hb
    rw [O.ntr key y x hb le]
    rfl
 · obtain ⟨n, n1, n2⟩ := zb1 hx
   have := hc.yes n n1
   obtain ⟨y, ey, ey', _⟩ := get n (by have := hc.le; omega)
   rw [ey] at this
   rw [n2] at ey'
   cases ey'
   exact this
 · obtain ⟨n, n1, n2, n3⟩ := zaY hx
   have := hc.no n n1 n2
   obtain ⟨y, ey, ey', _⟩ := get n n2
   rw [ey] at this
   rw [n3] at ey'
   cases ey'
   exact this
theorem zht : ∀ (m : List Keyed) (n off : Nat) (arr : Array Keyed), off + n + m.length ≤ arr.size →
 ((m.zipIdx n).foldl (fun a (p : Keyed × Nat) => a.setIfInBounds (off + p.2) p.1) arr).toList = arr.toList.take (off + n) ++ m ++ arr.toList.drop (off + n + m.length)
 | [], n, off, arr, h => by simp
 | x :: m, n, off, arr, h => by
  rw [List.zipIdx_cons, List.foldl_cons]
  rw [zht m (n + 1) off _ (by rw [Array.size_setIfInBounds]; simp at h; omega)]
  rw [Array.toList_setIfInBounds]
  simp only [List.length_cons] at h ⊢
  have hl : off + n < arr.toList.length := by simp; omega
  rw [show off + (n + 1) = (off + n) + 1 by omega]
  rw [List.take_set, List.drop_set_of_lt (by omega)]
  rw [List.take_succ, List.getElem?_eq_getElem hl]
  rw [List.set_append_right _ _ (by simp; omega)]
  have e : off + n - (arr.toList.take (off + n)).length = 0 := by rw [List.length_take]; omega
  rw [e]
  simp only [Option.toList_some, List.set_cons_zero, List.append_assoc, List.cons_append, List.nil_append]
  rw [show off + n + 1 + m.length = off + n + (m.length + 1) by omega]
end
theorem zfP (i : Nat) : mergeAt' i = (do
 let s ← get
 let (some (sa, na, power), some (sb, nb, _)) := ((pendingOf s)[i]?, (pendingOf s)[i + 1]?) | unsupported "internal:list.sort.pending"
 set (setPending s (((pendingOf s).setIfInBounds i (sa, na + nb, power)).eraseIdxIfInBounds (i + 1)))
 let some k ← zbJ false (← elem' (arrOf s) sb) (arrOf s) sa na 0 | return false
 let (sa, na) := (sa + k, na - k)
 if na == 0 then return true
 let some nb ← zbJ true (← elem' (arrOf s) (sa + na - 1)) (arrOf s) sb nb (nb - 1) | return false
 if nb == 0 then return true
 let x := (arrOf s).extract sa sb
 let y := (arrOf s).extract sb (sb + nb)
 let merged ← if na ≤ nb then zej x y else zek x y
 modify fun s => setArr s (merged.toList.zipIdx.foldl (fun a (p, j) => a.setIfInBounds (sa + j) p) (arrOf s))
 return (failedOf (← get)).isNone) := rfl
section
variable {prog : Program} {w : World} {A : Around} {E : Value → Shared → Prop} {s : Shared} {κ : SortKind} {L : Keyed → Keyed → Bool} {S : Keyed → Prop}
theorem zgI (O : LOrd L) (K : Asks prog w A E s κ L S) {i pw pw2 : Nat} {P Ra Rb R : List Keyed} {st : SortSt} {Q : Bool → SortSt → Prop} (hk : kindOf st = κ) (hf : failedOf st = none)
 (ha : (arrOf st).toList = P ++ (Ra ++ (Rb ++ R))) (p1 : (pendingOf st)[i]? = some (P.length, Ra.length, pw)) (p2 : (pendingOf st)[i + 1]? = some (P.length + Ra.length, Rb.length, pw2)) (na : Ra ≠ []) (nb : Rb ≠ [])
 (sa : SrtL L Ra) (sb : SrtL L Rb) (hSa : ∀ x ∈ Ra, S x) (hSb : ∀ x ∈ Rb, S x)
 (q : ∀ st' C, kindOf st' = κ → failedOf st' = none → pendingOf st' = ((pendingOf st).setIfInBounds i (P.length, Ra.length + Rb.length, pw)).eraseIdxIfInBounds (i + 1) → (arrOf st').toList = P ++ (C ++ R) → C.Perm (Ra ++ Rb) → SrtL L C → Q true st') :
 wpS (model prog w) A E s (mergeAt' i) Q st := by
 rw [zfP]
 refine wpS_bind (wpS_get ?_)
 rw [p1, p2]
 dsimp only
 refine wpS_bind (zki ?_)
 obtain ⟨b0, Rb', rfl⟩ : ∃ b0 Rb', Rb = b0 :: Rb' := by
  cases Rb with
  | nil => exact absurd rfl nb
  | cons x r => exact ⟨x, r, rfl⟩
 have hA : ∀ z, z ∈ Ra → 0 < Ra.length := fun z hz => List.length_pos_of_mem hz
 have la : 0 < Ra.length := List.length_pos_iff.mpr na
 have eb : (arrOf st)[P.length + Ra.length]? = some b0 := by
  rw [← Array.getElem?_toList, ha, List.getElem?_append_right (by omega), List.getElem?_append_right (by omega)]
  simp
 refine wpS_bind (zaD eb ?_)
 refine wpS_bind (zgo O K (pre := P) (part := Ra) (post := b0 :: Rb' ++ R) hk hSa (hSb b0 (by simp)) ha rfl sa la fun k hkl yes no => ?_)
 have yes : ∀ x ∈ Ra.take k, L b0 x = false := fun x hx => by simpa using yes x hx
 have no : ∀ x ∈ Ra.drop k, L b0 x = true := fun x hx => by simpa using no x hx
 have b0le : ∀ y ∈ b0 :: Rb', L y b0 = false := fun y hy => by
  rcases List.mem_cons.mp hy with rfl | hy
  · exact O.irr _
  · exact (List.pairwise_cons.mp sb).1 y hy
 dsimp only
 by_cases hk0 : Ra.length - k = 0
 · rw [if_pos (by simpa using hk0)]
   have : Ra.take k = Ra := List.take_of_length_le (by omega)
   rw [this] at yes
   refine wpS_pure (q _ (Ra ++ b0 :: Rb') hk hf rfl (by rw [ha]; simp) (List.Perm.refl _) (zaV sa sb fun x hx y hy => ?_))
   exact O.ntr y b0 x (b0le y hy) (yes x hx)
 rw [if_neg (by simpa using hk0)]
 obtain ⟨zl, Rl, hz⟩ : ∃ zl Rl, Ra.drop k = Rl ++ [zl] := by
  have hne : Ra.drop k ≠ [] := fun z => by have := congrArg List.length z; simp at this; omega
  exact ⟨(Ra.drop k).getLast hne, (Ra.drop k).dropLast, (List.dropLast_concat_getLast hne).symm⟩
 have hRl : Rl.length + 1 = Ra.length - k := by have := congrArg List.length hz; simp at this; omega
 have eRa : Ra = Ra.take k ++ (Rl ++ [zl]) := by rw [← hz, List.take_append_drop]
 have ltk : (Ra.take k).length = k := by rw [List.length_take]; omega
 have zm : zl ∈ Ra := by rw [eRa]; simp
 have ez : (arrOf st)[P.length + k + (Ra.length - k) - 1]? = some zl := by
  rw [show P.length + k + (Ra.length - k) - 1 = P.length + (k + Rl.length) by omega]
  rw [← Array.getElem?_toList, ha, List.getElem?_append_right (by omega), Nat.add_sub_cancel_left, List.getElem?_append_left (by omega), ← List.getElem?_drop, hz]
  simp
 refine wpS_bind (zaD ez ?_)
 have ha2 : (arrOf st).toList = (P ++ Ra) ++ (b0 :: Rb' ++ R) := by rw [ha]; simp
 refine wpS_bind (zgo O K (pre := P ++ Ra) (part := b0 :: Rb') (post := R) hk hSb (hSa zl zm) ha2 (by simp) sb (by simp) fun k2 hkl2 yes2 no2 => ?_)
 have yes2 : ∀ x ∈ (b0 :: Rb').take k2, L x zl = true := fun x hx => by simpa using yes2 x hx
 have no2 : ∀ x ∈ (b0 :: Rb').drop k2, L x zl = false := fun x hx => by simpa using no2 x hx
 dsimp only
 by_cases hk2 : k2 = 0
 · exfalso
   subst hk2
   have h1 := no2 b0 (by simp)
   rw [no zl (by rw [hz]; simp)] at h1
   cases h1
 rw [if_neg (by simpa using hk2)]
 have ex : ((arrOf st).extract (P.length + k) (P.length + Ra.length)).toList = Rl ++ [zl] := by
  rw [zfU, ha, List.take_append, List.take_of_length_le (by omega), Nat.add_sub_cancel_left, List.take_left, List.drop_append, List.drop_eq_nil_of_le (by omega), Nat.add_sub_cancel_left, hz]
  rfl
 have ey : ((arrOf st).extract (P.length + Ra.length) (P.length + Ra.length + k2)).toList = (b0 :: Rb').take k2 := by
  rw [zfV, ha2, show P.length + Ra.length = (P ++ Ra).length by simp, List.drop_left, List.take_append, Nat.sub_eq_zero_of_le hkl2, List.take_zero, List.append_nil]
 have sX : SrtL L ((arrOf st).extract (P.length + k) (P.length + Ra.length)).toList := by rw [ex, ← hz]; exact sa.sublist (List.drop_sublist _ _)
 have sY : SrtL L ((arrOf st).extract (P.length + Ra.length) (P.length + Ra.length + k2)).toList := by rw [ey]; exact sb.sublist (List.take_sublist _ _)
 have SX : ∀ x ∈ ((arrOf st).extract (P.length + k) (P.length + Ra.length)).toList, S x := fun x hx => by rw [ex, ← hz] at hx; exact hSa x (List.mem_of_mem_drop hx)
 have SY : ∀ x ∈ ((arrOf st).extract (P.length + Ra.length) (P.length + Ra.length + k2)).toList, S x := fun x hx => by rw [ey] at hx; exact hSb x (List.mem_of_mem_take hx)
 have ey0 : ((b0 :: Rb').take k2)[0]? = some b0 := by
  obtain ⟨n, rfl⟩ : ∃ n, k2 = n + 1 := ⟨k2 - 1, by omega⟩
  rfl
 generalize hX : (arrOf st).extract (P.length + k) (P.length + Ra.length) = X at *
 generalize hY : (arrOf st).extract (P.length + Ra.length) (P.length + Ra.length + k2) = Y at *
 have szX : X.size = Rl.length + 1 := by have := congrArg List.length ex; simpa using this
 have szY : Y.size = k2 := by have := congrArg List.length ey; rw [List.length_take] at this; simp at this; simp at hkl2; omega
 have first : ∀ y, Y[0]? = some y → ∀ x ∈ X.toList, L x y = false := fun y hy x hx => by
  rw [← Array.getElem?_toList, ey, ey0] at hy
  cases hy
  rw [ex, ← hz] at hx
  exact O.asym _ _ (no x hx)
 have last : ∀ z, X[X.size - 1]? = some z → ∀ y ∈ Y.toList, L z y = false := fun z hz' y hy => by
  rw [← Array.getElem?_toList, ex, szX, List.getElem?_append_right (by omega), show Rl.length + 1 - 1 - Rl.length = 0 by omega] at hz'
  cases hz'
  rw [ey] at hy
  exact O.asym _ _ (yes2 y hy)
 have fin : ∀ (o : Array Keyed) (st' : SortSt), StG (setPending st (((pendingOf st).setIfInBounds i (P.length, Ra.length + (b0 :: Rb').length, pw)).eraseIdxIfInBounds (i + 1))) st' → Res L X Y o →
  wpS (model prog w) A E s (do
   modify fun s => setArr s (o.toList.zipIdx.foldl (fun a (p, j) => a.setIfInBounds (P.length + k + j) p) (arrOf s))
   return (failedOf (← get)).isNone) Q st' := fun o st' hs ⟨r1, r2⟩ => by
  obtain ⟨g, rfl⟩ := hs
  refine wpS_bind (wpS_modify (wpS_bind (wpS_get ?_)))
  have lo : o.toList.length = (Ra.length - k) + k2 := by rw [r1.length_eq, List.length_append, ex, ey, List.length_append, List.length_take]; simp; simp at hkl2; omega
  have lA : (arrOf st).size = P.length + Ra.length + (Rb'.length + 1) + R.length := by have := congrArg List.length ha; simp at this; omega
  have ov := zht o.toList 0 (P.length + k) (arrOf st) (by rw [lo, lA]; simp at hkl2; omega)
  have hfn : (failedOf st).isNone = true := by rw [hf]; rfl
  show wpS _ _ _ _ (pure (failedOf st).isNone) _ _
  rw [hfn]
  refine wpS_pure (q _ (Ra.take k ++ o.toList ++ (b0 :: Rb').drop k2) hk hf rfl ?_ ?_ ?_)
  · refine ov.trans ?_
    rw [Nat.add_zero, lo]
    have t1 : (arrOf st).toList.take (P.length + k) = P ++ Ra.take k := by
     rw [ha, List.take_append, List.take_of_length_le (by omega), Nat.add_sub_cancel_left, List.take_append_of_le_length hkl]
    have t2 : (arrOf st).toList.drop (P.length + k + (Ra.length - k + k2)) = (b0 :: Rb').drop k2 ++ R := by
     rw [ha2, show P.length + k + (Ra.length - k + k2) = (P ++ Ra).length + k2 by simp; omega, ← List.drop_drop, List.drop_left, List.drop_append_of_le_length hkl2]
    rw [t1, t2]
    simp
  · have e1 : Ra ++ (b0 :: Rb') = Ra.take k ++ ((Rl ++ [zl]) ++ (b0 :: Rb').take k2) ++ (b0 :: Rb').drop k2 := by
     conv => lhs; rw [eRa, ← List.take_append_drop k2 (b0 :: Rb')]
     simp
    rw [e1]
    rw [ex, ey] at r1
    exact List.Perm.append_right _ (List.Perm.append_left _ r1)
  · have memo : ∀ {x}, x ∈ o.toList → x ∈ Ra.drop k ∨ x ∈ (b0 :: Rb').take k2 := fun {x} hx => by
     have := r1.mem_iff.mp hx
     rw [ex, ey, ← hz] at this
     exact List.mem_append.mp this
    have sA2 : SrtL L (Ra.take k ++ Ra.drop k) := by rw [List.take_append_drop]; exact sa
    have sB2 : SrtL L ((b0 :: Rb').take k2 ++ (b0 :: Rb').drop k2) := by rw [List.take_append_drop]; exact sb
    have zle : ∀ x ∈ Ra.drop k, L zl x = false := fun x hx => by
     rw [hz] at hx
     rcases List.mem_append.mp hx with hx | hx
     · have s2 : SrtL L (Rl ++ [zl]) := by rw [← hz]; exact sa.sublist (List.drop_sublist _ _)
       exact (List.pairwise_append.mp s2).2.2 x hx zl (by simp)
     · rw [List.mem_singleton.mp hx]; exact O.irr _
    refine zaV (zaV (sa.sublist (List.take_sublist _ _)) r2 fun x hx y hy => ?_) (sb.sublist (List.drop_sublist _ _)) fun x hx y hy => ?_
    · rcases memo hy with hy | hy
      · exact (List.pairwise_append.mp sA2).2.2 x hx y hy
      · exact O.ntr y b0 x (b0le y (List.mem_of_mem_take hy)) (yes x hx)
    · rcases List.mem_append.mp hx with hx | hx
      · exact O.ntr y b0 x (b0le y (List.mem_of_mem_drop hy)) (yes x hx)
      · rcases memo hx with hx | hx
        · exact O.ntr y zl x (no2 y hy) (zle x hx)
        · exact (List.pairwise_append.mp sB2).2.2 x hx y hy
 have hk' : kindOf (setPending st (((pendingOf st).setIfInBounds i (P.length, Ra.length + (b0 :: Rb').length, pw)).eraseIdxIfInBounds (i + 1))) = κ := hk
 by_cases hle : Ra.length - k ≤ k2
 · rw [if_pos hle]
   refine wpS_bind (zgG O K hk' SX SY sX sY (by omega) (by omega) first last fun o st' hs r => ?_)
   exact fin o st' hs r
 · rw [if_neg hle]
   refine wpS_bind (zgH O K hk' SX SY sX sY (by omega) (by omega) first last fun o st' hs r => ?_)
   exact fin o st' hs r
end
theorem zin {arr : Array Keyed} {U V : List Keyed} {x y : Keyed} (h : arr.toList = U ++ (x :: y :: V)) : (arr.swapIfInBounds (U.length + 1) U.length).toList = U ++ (y :: x :: V) := by
 have hs : arr.size = U.length + (V.length + 1 + 1) := by have := congrArg List.length h; simpa using this
 have g : ∀ k, arr[k]? = (U ++ (x :: y :: V))[k]? := fun k => by rw [← h, Array.getElem?_toList]
 apply List.ext_getElem?
 intro k
 rw [Array.getElem?_toList, getElem?_swapIB (by omega) (by omega), g, g, g]
 by_cases h1 : U.length = k
 · rw [if_pos h1, ← h1, List.getElem?_append_right (by omega), List.getElem?_append_right (by omega)]
   simp
 · rw [if_neg h1]
   by_cases h2 : U.length + 1 = k
   · rw [if_pos h2, ← h2, List.getElem?_append_right (by omega), List.getElem?_append_right (by omega)]
     simp
   · rw [if_neg h2]
     rcases Nat.lt_or_ge k U.length with h3 | h3
     · rw [List.getElem?_append_left h3, List.getElem?_append_left h3]
     · rw [List.getElem?_append_right h3, List.getElem?_append_right h3]
       obtain ⟨m, hm⟩ : ∃ m, k - U.length = m + 1 + 1 := ⟨k - U.length - 2, by omega⟩
       rw [hm]
       rfl
theorem zf1 {arr : Array Keyed} {U Z : List Keyed} {piv : Keyed} : ∀ (d : Nat) {Y : List Keyed}, Y.length = d → arr.toList = U ++ (Y ++ (piv :: Z)) → (bubble arr (U.length + d) d).toList = U ++ (piv :: (Y ++ Z)) := by
 have go : ∀ (d : Nat) (W Y : List Keyed), Y.length = d → ∀ n, n = W.length + d → arr.toList = W ++ (Y ++ (piv :: Z)) → (bubble arr n d).toList = W ++ (piv :: (Y ++ Z)) := by
  intro d
  induction d with
  | zero =>
   intro W Y hY n hn h
   obtain rfl := List.length_eq_zero_iff.mp hY
   show arr.toList = _
   simpa using h
  | succ d ih =>
   intro W Y hY n hn h
   obtain ⟨y, Y', rfl⟩ : ∃ y Y', Y = y :: Y' := by
    cases Y with
    | nil => cases hY
    | cons y Y' => exact ⟨y, Y', rfl⟩
   have := ih (W ++ [y]) Y' (by simpa using hY) n (by simp; omega) (by rw [h]; simp)
   rw [bubble_succ]
   rw [show n - d = W.length + 1 by omega, show W.length + 1 - 1 = W.length by omega]
   exact zin (x := y) (y := piv) (V := Y' ++ Z) (by rw [this]; simp)
 exact fun d Y hY h => go d U Y hY _ rfl h
theorem zdJ (lo n ok : Nat) : binarySort' lo n ok = (do
 for k in [max ok 1 : n] do
  let mut l := 0
  let mut r := k
  for _ in [0:k] do
   if l ≥ r then break
   let m := (l + r) / 2
   let some less ← ltAt' (lo + k) (lo + m) | return false
   if less then r := m else l := m + 1
  moveDown' (lo + k) (lo + l)
 return true) := rfl
section
variable {prog : Program} {w : World} {A : Around} {E : Value → Shared → Prop} {s : Shared} {κ : SortKind} {L : Keyed → Keyed → Bool} {S : Keyed → Prop}
def StA (st st' : SortSt) : Prop := ∃ xs, st' = setArr st xs
theorem zdE (K : Asks prog w A E s κ L S) {i j : Nat} {x y : Keyed} {st : SortSt} {Q : Option Bool → SortSt → Prop} (hk : kindOf st = κ) (hi : (arrOf st)[i]? = some x) (hj : (arrOf st)[j]? = some y) (hx : S x) (hy : S y) (q : Q (some (L x y)) st) : wpS (model prog w) A E s (ltAt' i j) Q st := by
 rw [ltAt'_eq]
 refine wpS_bind (wpS_get ?_)
 exact wpS_bind (zaD hi (wpS_bind (zaD hj (K x y st _ hx hy hk q))))
theorem zez (O : LOrd L) (K : Asks prog w A E s κ L S) {lo n ok : Nat} {P X R : List Keyed} {st : SortSt} {Q : Bool → SortSt → Prop} (hk : kindOf st = κ) (ha : (arrOf st).toList = P ++ (X ++ R)) (hP : P.length = lo) (hX : X.length = n) (hn : 1 ≤ n) (hok : ok ≤ n) (srt : SrtL L (X.take ok)) (hS : ∀ x ∈ X, S x)
 (q : ∀ st' C, StA st st' → (arrOf st').toList = P ++ (C ++ R) → C.Perm X → SrtL L C → Q true st') : wpS (model prog w) A E s (binarySort' lo n ok) Q st := by
 rw [zdJ]
 refine wpS_bind (wpS_mono (wpS_forRange
  (I := fun k c st' => c = (none, ⟨⟩) ∧ StA st st' ∧ ∃ C, (arrOf st').toList = P ++ (C ++ R) ∧ C.Perm X ∧ SrtL L (C.take k))
  (Q := fun c st' => c = (none, ⟨⟩) ∧ StA st st' ∧ ∃ C, (arrOf st').toList = P ++ (C ++ R) ∧ C.Perm X ∧ SrtL L C) ?step ?fin ⟨rfl, ⟨_, rfl⟩, X, ha, List.Perm.refl _, ?init⟩) ?post)
 case init =>
  by_cases h : 1 ≤ ok
  · rw [Nat.max_eq_left h]; exact srt
  · rw [Nat.max_eq_right (by omega)]
    cases X with
    | nil => simp
    | cons x X' => simp
 case fin =>
  rintro c st' ⟨hc, hs, C, h1, h2, h3⟩
  refine ⟨hc, hs, C, h1, h2, ?_⟩
  have : C.length = n := by rw [h2.length_eq, hX]
  rw [List.take_of_length_le (by omega)] at h3
  exact h3
 case post =>
  rintro c st' ⟨rfl, hs, C, h1, h2, h3⟩
  exact wpS_pure (q st' C hs h1 h2 h3)
 case step =>
  rintro k c st' hk1 hkn ⟨rfl, ⟨xs, rfl⟩, C, h1, h2, h3⟩
  dsimp only
  have lC : C.length = n := by rw [h2.length_eq, hX]
  have hSC : ∀ x ∈ C, S x := fun x hx => hS x (h2.mem_iff.mp hx)
  have idx : ∀ m x, C[m]? = some x → (arrOf (setArr st xs))[lo + m]? = some x := fun m x e => by
   have hm : m < C.length := (List.getElem?_eq_some_iff.mp e).1
   rw [← Array.getElem?_toList, h1, ← hP, List.getElem?_append_right (by omega), Nat.add_sub_cancel_left, List.getElem?_append_left hm, e]
  obtain ⟨piv, hp⟩ : ∃ piv, C[k]? = some piv := ⟨C[k]'(by omega), List.getElem?_eq_getElem _⟩
  have hpm : piv ∈ C := List.mem_of_getElem? hp
  have srtk : ∀ i j x y, i ≤ j → j < k → C[i]? = some x → C[j]? = some y → L y x = false := fun i j x y hij hj ex ey => by
   rcases Nat.lt_or_ge i j with z | z
   · have e1 : (C.take k)[i]? = some x := by rw [List.getElem?_take, if_pos (by omega)]; exact ex
     have e2 : (C.take k)[j]? = some y := by rw [List.getElem?_take, if_pos hj]; exact ey
     obtain ⟨a1, b1⟩ := List.getElem?_eq_some_iff.mp e1
     obtain ⟨a2, b2⟩ := List.getElem?_eq_some_iff.mp e2
     have := List.pairwise_iff_getElem.mp h3 i j a1 a2 z
     rw [b1, b2] at this
     exact this
   · obtain rfl : i = j := by omega
     rw [ex] at ey
     cases ey
     exact O.irr _
  refine wpS_bind (wpS_mono (wpS_forRange
   (I := fun y c st' => st' = setArr st xs ∧ ∃ l r, c = (none, l, r) ∧ l ≤ r ∧ r ≤ k ∧ (∀ i x, i < l → C[i]? = some x → L piv x = false) ∧ (∀ i x, r ≤ i → i < k → C[i]? = some x → L piv x = true) ∧ r - l + y ≤ k)
   (Q := fun c st' => st' = setArr st xs ∧ ∃ l, c = (none, l, l) ∧ l ≤ k ∧ (∀ i x, i < l → C[i]? = some x → L piv x = false) ∧ (∀ i x, l ≤ i → i < k → C[i]? = some x → L piv x = true)) ?step1 ?fin1 ⟨rfl, 0, k, rfl, by omega, by omega, fun i x hi => by omega, fun i x h1 h2 => by omega, by omega⟩) ?post1)
  case fin1 =>
   rintro c st' ⟨hs, l, r, rfl, a1, a2, a3, a4, a5⟩
   obtain rfl : l = r := by omega
   exact ⟨hs, l, rfl, a2, a3, a4⟩
  case step1 =>
   rintro y c st' _ hy ⟨rfl, l, r, rfl, a1, a2, a3, a4, a5⟩
   dsimp only
   by_cases h : l ≥ r
   · rw [if_pos h]
     obtain rfl : l = r := by omega
     exact wpS_pure ⟨rfl, l, rfl, a2, a3, a4⟩
   rw [if_neg h]
   obtain ⟨v, hv⟩ : ∃ v, C[(l + r) / 2]? = some v := ⟨C[(l + r) / 2]'(by omega), List.getElem?_eq_getElem _⟩
   refine wpS_bind (zdE K hk (idx _ _ hp) (idx _ _ hv) (hSC _ hpm) (hSC _ (List.mem_of_getElem? hv)) ?_)
   dsimp only
   cases hw : L piv v with
   | true =>
    rw [if_pos rfl]
    refine wpS_pure ⟨rfl, _, _, rfl, by omega, by omega, a3, fun i x b1 b2 ex => ?_, by omega⟩
    cases e : L piv x with
    | true => rfl
    | false =>
     have := O.ntr piv x v e (srtk _ _ _ _ b1 b2 hv ex)
     rw [this] at hw
     cases hw
   | false =>
    rw [if_neg (by simp)]
    exact wpS_pure ⟨rfl, _, _, rfl, by omega, by omega, fun i x b1 ex => O.ntr piv v x hw (srtk _ _ _ _ (by omega) (by omega) ex hv), a4, by omega⟩
  case post1 =>
   rintro c st' ⟨rfl, l, rfl, a2, a3, a4⟩
   dsimp only
   rw [moveDown'_eq]
   refine wpS_bind (wpS_modify (wpS_pure ⟨rfl, ⟨_, rfl⟩, C.take l ++ (piv :: ((C.take k).drop l ++ C.drop (k + 1))), ?_, ?_, ?_⟩))
   · have e1 : C = C.take l ++ ((C.take k).drop l ++ (piv :: C.drop (k + 1))) := by
      have e2 : C.take k = C.take l ++ (C.take k).drop l := by
       have := List.take_append_drop l (C.take k)
       rw [List.take_take, Nat.min_eq_left a2] at this
       exact this.symm
      have e3 : C.drop k = piv :: C.drop (k + 1) := by
       obtain ⟨z1, z2⟩ := List.getElem?_eq_some_iff.mp hp
       rw [List.drop_eq_getElem_cons z1, z2]
      rw [← List.append_assoc, ← e2, ← e3, List.take_append_drop]
     have e4 : (arrOf (setArr st xs)).toList = (P ++ C.take l) ++ ((C.take k).drop l ++ (piv :: (C.drop (k + 1) ++ R))) := by
      rw [h1]
      conv => lhs; rw [e1]
      simp
     have := zf1 (k - l) (by rw [List.length_drop, List.length_take]; omega) e4
     rw [show (P ++ C.take l).length + (k - l) = lo + k by rw [List.length_append, List.length_take]; omega] at this
     rw [show lo + k - (lo + l) = k - l by omega]
     refine this.trans ?_
     simp
   · refine List.Perm.trans ?_ h2
     have e2 : C.take k = C.take l ++ (C.take k).drop l := by
      have := List.take_append_drop l (C.take k)
      rw [List.take_take, Nat.min_eq_left a2] at this
      exact this.symm
     have e3 : C.drop k = piv :: C.drop (k + 1) := by
      obtain ⟨z1, z2⟩ := List.getElem?_eq_some_iff.mp hp
      rw [List.drop_eq_getElem_cons z1, z2]
     have e1 : C = C.take l ++ ((C.take k).drop l ++ (piv :: C.drop (k + 1))) := by rw [← List.append_assoc, ← e2, ← e3, List.take_append_drop]
     conv => rhs; rw [e1]
     refine List.Perm.append_left _ ?_
     exact List.perm_middle.symm
   · have e5 : (C.take l ++ (piv :: ((C.take k).drop l ++ C.drop (k + 1)))).take (k + 1) = C.take l ++ (piv :: (C.take k).drop l) := by
      have hlen : (C.take l ++ (piv :: (C.take k).drop l)).length = k + 1 := by simp; omega
      rw [show C.take l ++ (piv :: ((C.take k).drop l ++ C.drop (k + 1))) = (C.take l ++ (piv :: (C.take k).drop l)) ++ C.drop (k + 1) by simp, ← hlen, List.take_left]
     rw [e5]
     have sub1 : SrtL L (C.take l) := h3.sublist (by rw [show C.take l = (C.take k).take l by rw [List.take_take, Nat.min_eq_left a2]]; exact List.take_sublist _ _)
     refine zaV sub1 (List.pairwise_cons.mpr ⟨fun y hy => ?_, h3.sublist (List.drop_sublist _ _)⟩) fun x hx y hy => ?_
     · obtain ⟨j, j1, j2, j3⟩ := zcI hy
       exact O.asym _ _ (a4 j y j1 j2 j3)
     · obtain ⟨i, i1, i2⟩ := zb1 hx
       rcases List.mem_cons.mp hy with rfl | hy
       · exact a3 i x i1 i2
       · obtain ⟨j, j1, j2, j3⟩ := zcI hy
         exact srtk i j x y (by omega) j2 i2 j3
end
theorem zfM {arr : Array Keyed} {U Y Z : List Keyed} (h : arr.toList = U ++ (Y ++ Z)) : (mirror arr U.length (U.length + Y.length) ((U.length + Y.length - U.length) / 2)).toList = U ++ (Y.reverse ++ Z) := by
 have hs : arr.size = U.length + (Y.length + Z.length) := by have := congrArg List.length h; simpa using this
 have g : ∀ k, arr[k]? = (U ++ (Y ++ Z))[k]? := fun k => by rw [← h, Array.getElem?_toList]
 apply List.ext_getElem?
 intro k
 rw [Array.getElem?_toList, getElem?_mirror_all (by omega), g, g]
 by_cases h1 : U.length ≤ k ∧ k < U.length + Y.length
 · rw [if_pos h1]
   have l1 : (U ++ (Y ++ Z))[U.length + (U.length + Y.length) - 1 - k]? = Y[Y.length - 1 - (k - U.length)]? := by
    rw [List.getElem?_append_right (by omega), List.getElem?_append_left (by omega)]
    congr 1
    omega
   have l2 : (U ++ (Y.reverse ++ Z))[k]? = Y.reverse[k - U.length]? := by
    rw [List.getElem?_append_right (by omega), List.getElem?_append_left (by simp; omega)]
   rw [l1, l2, List.getElem?_reverse (by omega)]
 · rw [if_neg h1]
   rcases Nat.lt_or_ge k U.length with h3 | h3
   · rw [List.getElem?_append_left h3, List.getElem?_append_left h3]
   · have l1 : (U ++ (Y ++ Z))[k]? = Z[k - U.length - Y.length]? := by
      rw [List.getElem?_append_right h3, List.getElem?_append_right (by omega)]
     have l2 : (U ++ (Y.reverse ++ Z))[k]? = Z[k - U.length - Y.length]? := by
      rw [List.getElem?_append_right h3, List.getElem?_append_right (by simp; omega)]
      simp
     rw [l1, l2]
theorem zev (lo nrem : Nat) : countRun' lo nrem = (do
 let mut n := 1
 for _ in [1:nrem] do
  let some smaller ← ltAt' (lo + n) (lo + n - 1) | return none
  if smaller then break
  n := n + 1
 if n == nrem then return some n
 if n > 1 then
  let some rose ← ltAt' lo (lo + n - 1) | return none
  if rose then return some n
  reverseSlice' lo (lo + n)
 rule "list.sort.descending-run"
 n := n + 1
 let mut neq := 0
 for _ in [n:nrem] do
  let some smaller ← ltAt' (lo + n) (lo + n - 1) | return none
  if smaller then
   if neq > 0 then reverseSlice' (lo + n - (neq + 1)) (lo + n)
   neq := 0
  else
   let some larger ← ltAt' (lo + n - 1) (lo + n) | return none
   if larger then break
   neq := neq + 1
  n := n + 1
 if neq > 0 then reverseSlice' (lo + n - (neq + 1)) (lo + n)
 reverseSlice' lo (lo + n)
 for _ in [n:nrem] do
  let some smaller ← ltAt' (lo + n) (lo + n - 1) | return none
  if smaller then break
  n := n + 1
 return some n) := rfl
section
variable {prog : Program} {w : World} {A : Around} {E : Value → Shared → Prop} {s : Shared} {κ : SortKind} {L : Keyed → Keyed → Bool} {S : Keyed → Prop}
structure At (st0 st : SortSt) (P X R C : List Keyed) : Prop where
 same : StA st0 st
 arr : (arrOf st).toList = P ++ (C ++ R)
 perm : C.Perm X
theorem At.get {st0 st : SortSt} {P X R C : List Keyed} (h : At st0 st P X R C) {m : Nat} {x : Keyed} (e : C[m]? = some x) : (arrOf st)[P.length + m]? = some x := by
 have hm : m < C.length := (List.getElem?_eq_some_iff.mp e).1
 rw [← Array.getElem?_toList, h.arr, List.getElem?_append_right (by omega), Nat.add_sub_cancel_left, List.getElem?_append_left hm, e]
theorem At.kind {st0 st : SortSt} {P X R C : List Keyed} (h : At st0 st P X R C) (hk : kindOf st0 = κ) : kindOf st = κ := by obtain ⟨xs, rfl⟩ := h.same; exact hk
theorem At.rev {st0 st : SortSt} {P X R C : List Keyed} (h : At st0 st P X R C) {U Y Z : List Keyed} (hC : C = U ++ (Y ++ Z)) {i j : Nat} (hi : i = P.length + U.length) (hj : j = i + Y.length) {Q : Unit → SortSt → Prop} (q : ∀ st', At st0 st' P X R (U ++ (Y.reverse ++ Z)) → Q () st') : wpS (model prog w) A E s (reverseSlice' i j) Q st := by
 rw [reverseSlice'_eq]
 refine wpS_modify (q _ ⟨?_, ?_, ?_⟩)
 · obtain ⟨xs, rfl⟩ := h.same; exact ⟨_, rfl⟩
 · have e : (arrOf st).toList = (P ++ U) ++ (Y ++ (Z ++ R)) := by rw [h.arr, hC]; simp
   have := zfM e
   rw [List.length_append, ← hi, ← hj] at this
   refine this.trans ?_
   simp
 · refine List.Perm.trans ?_ h.perm
   rw [hC]
   exact List.Perm.append_left _ (List.Perm.append_right _ (List.reverse_perm _))
theorem zio (O : LOrd L) {C : List Keyed} {n : Nat} {u v : Keyed} (hs : SrtL L (C.take (n + 1))) (hu : C[n]? = some u) (hv : C[n + 1]? = some v) (h : L v u = false) : SrtL L (C.take (n + 1 + 1)) := by
 rw [zar hv]
 refine zaV hs (by simp) fun x hx y hy => ?_
 rw [List.mem_singleton.mp hy]
 rw [zar hu] at hx hs
 rcases List.mem_append.mp hx with hx | hx
 · exact O.ntr v u x h ((List.pairwise_append.mp hs).2.2 x hx u (by simp))
 · rw [List.mem_singleton.mp hx]; exact h
theorem zfb (O : LOrd L) (K : Asks prog w A E s κ L S) {lo n0 nrem : Nat} {st0 st : SortSt} {P X R C : List Keyed} {Q : (Option (Option Nat) × Nat) → SortSt → Prop} (hk : kindOf st0 = κ) (hP : P.length = lo) (hX : X.length = nrem) (hS : ∀ x ∈ X, S x) (h : At st0 st P X R C) (h1 : 1 ≤ n0) (h2 : n0 ≤ nrem) (srt : SrtL L (C.take n0))
 (q : ∀ n, n0 ≤ n → n ≤ nrem → SrtL L (C.take n) → (n = nrem ∨ ∃ u v, C[n - 1]? = some u ∧ C[n]? = some v ∧ L v u = true) → Q (none, n) st) :
 wpS (model prog w) A E s (forIn [n0:nrem] ((none, n0) : Option (Option Nat) × Nat) fun _ __s => do
  let __x ← ltAt' (lo + __s.2) (lo + __s.2 - 1)
  match __x with
   | some smaller => if smaller = true then pure (ForInStep.done (none, __s.2)) else pure (ForInStep.yield (none, __s.2 + 1))
   | x => pure (ForInStep.done (some none, __s.2))) Q st := by
 have lC : C.length = nrem := by rw [h.perm.length_eq, hX]
 refine wpS_mono (wpS_forRange
  (I := fun y c st' => st' = st ∧ c = (none, y) ∧ n0 ≤ y ∧ y ≤ nrem ∧ SrtL L (C.take y))
  (Q := fun c st' => st' = st ∧ ∃ n, c = (none, n) ∧ n0 ≤ n ∧ n ≤ nrem ∧ SrtL L (C.take n) ∧ (n = nrem ∨ ∃ u v, C[n - 1]? = some u ∧ C[n]? = some v ∧ L v u = true)) ?step ?fin ⟨rfl, rfl, by omega, h2, srt⟩) ?post
 case fin =>
  rintro c st' ⟨hs, rfl, a1, a2, a3⟩
  exact ⟨hs, _, rfl, a1, a2, a3, .inl (by omega)⟩
 case post =>
  rintro c st' ⟨rfl, n, rfl, a1, a2, a3, a4⟩
  exact q n a1 a2 a3 a4
 case step =>
  rintro y c st' hy1 hy2 ⟨rfl, rfl, a1, a2, a3⟩
  dsimp only
  obtain ⟨m, rfl⟩ : ∃ m, y = m + 1 := ⟨y - 1, by omega⟩
  obtain ⟨u, hu⟩ : ∃ u, C[m]? = some u := ⟨C[m]'(by omega), List.getElem?_eq_getElem _⟩
  obtain ⟨v, hv⟩ : ∃ v, C[m + 1]? = some v := ⟨C[m + 1]'(by omega), List.getElem?_eq_getElem _⟩
  have eu := h.get hu
  have ev := h.get hv
  rw [hP] at eu ev
  refine wpS_bind (zdE K (h.kind hk) ev (by rw [show lo + (m + 1) - 1 = lo + m by omega]; exact eu) (hS _ (h.perm.mem_iff.mp (List.mem_of_getElem? hv))) (hS _ (h.perm.mem_iff.mp (List.mem_of_getElem? hu))) ?_)
  dsimp only
  cases hw : L v u with
  | true =>
   rw [if_pos rfl]
   exact wpS_pure ⟨rfl, _, rfl, a1, a2, a3, .inr ⟨u, v, hu, hv, hw⟩⟩
  | false =>
   rw [if_neg (by simp)]
   exact wpS_pure ⟨rfl, rfl, by omega, by omega, zio O a3 hu hv hw⟩
abbrev DecL (L : Keyed → Keyed → Bool) (l : List Keyed) : Prop := l.Pairwise fun x y => L x y = false
theorem zi2 (O : LOrd L) {C : List Keyed} {m : Nat} {u : Keyed} (hd : DecL L (C.take (m + 1))) (hu : C[m]? = some u) : ∀ x ∈ C.take (m + 1), L x u = false := fun x hx => by
 rw [zar hu] at hd hx
 rcases List.mem_append.mp hx with hx | hx
 · exact (List.pairwise_append.mp hd).2.2 x hx u (by simp)
 · rw [List.mem_singleton.mp hx]; exact O.irr _
theorem zdi {n nrem : Nat} {st0 st : SortSt} {P X R C : List Keyed} (hX : X.length = nrem) (h : At st0 st P X R C) (h2 : n ≤ nrem) (dec : DecL L (C.take n)) : SrtL L (((C.take n).reverse ++ C.drop n).take n) := by
 have lC : C.length = nrem := by rw [h.perm.length_eq, hX]
 have hl : (C.take n).reverse.length = n := by simp; omega
 have : ((C.take n).reverse ++ C.drop n).take n = (C.take n).reverse := List.take_left' hl
 rw [this]
 exact List.pairwise_reverse.mpr dec
theorem zhX (O : LOrd L) (K : Asks prog w A E s κ L S) {lo n0 nrem : Nat} {st0 st : SortSt} {P X R C0 : List Keyed} {Q : (Option (Option Nat) × Nat × Nat) → SortSt → Prop} (hk : kindOf st0 = κ) (hP : P.length = lo) (hX : X.length = nrem) (hS : ∀ x ∈ X, S x) (h : At st0 st P X R C0) (h1 : 1 ≤ n0) (h2 : n0 ≤ nrem) (dec0 : DecL L (C0.take n0))
 (q : ∀ st' C n neq, At st0 st' P X R C → 1 ≤ n → n ≤ nrem → DecL L (C.take n) → neq < n → (∀ x ∈ (C.take n).drop (n - 1 - neq), ∀ z ∈ (C.take n).drop (n - 1 - neq), L x z = false) → Q (none, n, neq) st') :
 wpS (model prog w) A E s (forIn [n0:nrem] ((none, n0, 0) : Option (Option Nat) × Nat × Nat) fun _ __s => do
  let __x ← ltAt' (lo + __s.2.1) (lo + __s.2.1 - 1)
  match __x with
   | some smaller =>
    if smaller = true then
     if __s.2.2 > 0 then do
      reverseSlice' (lo + __s.2.1 - (__s.2.2 + 1)) (lo + __s.2.1)
      pure (ForInStep.yield (none, __s.2.1 + 1, 0))
     else pure (ForInStep.yield (none, __s.2.1 + 1, 0))
    else do
     let __x ← ltAt' (lo + __s.2.1 - 1) (lo + __s.2.1)
     match __x with
      | some larger => if larger = true then pure (ForInStep.done (none, __s.2.1, __s.2.2)) else pure (ForInStep.yield (none, __s.2.1 + 1, __s.2.2 + 1))
      | x => pure (ForInStep.done (some none, __s.2.1, __s.2.2))
   | x => pure (ForInStep.done (some none, __s.2.1, __s.2.2))) Q st := by
 refine wpS_mono (wpS_forRange
  (I := fun y c st' => ∃ C neq, c = (none, y, neq) ∧ At st0 st' P X R C ∧ 1 ≤ y ∧ y ≤ nrem ∧ DecL L (C.take y) ∧ neq < y ∧ (∀ x ∈ (C.take y).drop (y - 1 - neq), ∀ z ∈ (C.take y).drop (y - 1 - neq), L x z = false))
  (Q := fun c st' => ∃ C n neq, c = (none, n, neq) ∧ At st0 st' P X R C ∧ 1 ≤ n ∧ n ≤ nrem ∧ DecL L (C.take n) ∧ neq < n ∧ (∀ x ∈ (C.take n).drop (n - 1 - neq), ∀ z ∈ (C.take n).drop (n - 1 - neq), L x z = false)) ?step ?fin ⟨C0, 0, rfl, h, h1, h2, dec0, by omega, ?init⟩) ?post
 case init =>
  intro x hx z hz
  obtain ⟨m, rfl⟩ : ∃ m, n0 = m + 1 := ⟨n0 - 1, by omega⟩
  have lC : C0.length = nrem := by rw [h.perm.length_eq, hX]
  obtain ⟨u, hu⟩ : ∃ u, C0[m]? = some u := ⟨C0[m]'(by omega), List.getElem?_eq_getElem _⟩
  rw [show m + 1 - 1 - 0 = m by omega, zcC hu] at hx hz
  rw [List.mem_singleton.mp hx, List.mem_singleton.mp hz]
  exact O.irr _
 case fin =>
  rintro c st' ⟨C, neq, rfl, a1, a2, a3, a4, a5, a6⟩
  exact ⟨C, _, neq, rfl, a1, a2, a3, a4, a5, a6⟩
 case post =>
  rintro c st' ⟨C, n, neq, rfl, a1, a2, a3, a4, a5, a6⟩
  exact q st' C n neq a1 a2 a3 a4 a5 a6
 case step =>
  rintro y c st' hy1 hy2 ⟨C, neq, rfl, a1, a2, a3, a4, a5, a6⟩
  dsimp only
  have lC : C.length = nrem := by rw [a1.perm.length_eq, hX]
  obtain ⟨m, rfl⟩ : ∃ m, y = m + 1 := ⟨y - 1, by omega⟩
  obtain ⟨u, hu⟩ : ∃ u, C[m]? = some u := ⟨C[m]'(by omega), List.getElem?_eq_getElem _⟩
  obtain ⟨v, hv⟩ : ∃ v, C[m + 1]? = some v := ⟨C[m + 1]'(by omega), List.getElem?_eq_getElem _⟩
  have eu := a1.get hu
  have ev := a1.get hv
  rw [hP] at eu ev
  have Su := hS _ (a1.perm.mem_iff.mp (List.mem_of_getElem? hu))
  have Sv := hS _ (a1.perm.mem_iff.mp (List.mem_of_getElem? hv))
  have eu' : (arrOf st')[lo + (m + 1) - 1]? = some u := by rw [show lo + (m + 1) - 1 = lo + m by omega]; exact eu
  have xu := zi2 O a4 hu
  refine wpS_bind (zdE K (a1.kind hk) ev eu' Sv Su ?_)
  dsimp only
  have snoc : ∀ {D : List Keyed}, DecL L D → (∀ x ∈ D, L x v = false) → DecL L (D ++ [v]) := fun {D} hD hx => List.pairwise_append.mpr ⟨hD, by simp, fun x hx' z hz => by rw [List.mem_singleton.mp hz]; exact hx x hx'⟩
  have one : ∀ {D : List Keyed}, (D ++ [v]).length = m + 1 + 1 → ∀ x ∈ (D ++ [v]).drop (m + 1 + 1 - 1 - 0), ∀ z ∈ (D ++ [v]).drop (m + 1 + 1 - 1 - 0), L x z = false := fun {D} hD x hx z hz => by
   have hD' : D.length = m + 1 := by simpa using hD
   rw [show m + 1 + 1 - 1 - 0 = D.length by omega, List.drop_left] at hx hz
   rw [List.mem_singleton.mp hx, List.mem_singleton.mp hz]
   exact O.irr _
  cases hw : L v u with
  | true =>
   rw [if_pos rfl]
   have xv : ∀ x ∈ C.take (m + 1), L x v = false := fun x hx => O.ntr x u v (xu x hx) (O.asym _ _ hw)
   by_cases hq : neq > 0
   · rw [if_pos hq]
     have eC : C = C.take (m + 1 - 1 - neq) ++ ((C.take (m + 1)).drop (m + 1 - 1 - neq) ++ C.drop (m + 1)) := by
      have e2 : C.take (m + 1) = C.take (m + 1 - 1 - neq) ++ (C.take (m + 1)).drop (m + 1 - 1 - neq) := by
       have := List.take_append_drop (m + 1 - 1 - neq) (C.take (m + 1))
       rw [List.take_take, Nat.min_eq_left (by omega)] at this
       exact this.symm
      rw [← List.append_assoc, ← e2, List.take_append_drop]
     have e2 : C.take (m + 1) = C.take (m + 1 - 1 - neq) ++ (C.take (m + 1)).drop (m + 1 - 1 - neq) := by
      have := List.take_append_drop (m + 1 - 1 - neq) (C.take (m + 1))
      rw [List.take_take, Nat.min_eq_left (by omega)] at this
      exact this.symm
     have e3 : C.drop (m + 1) = v :: C.drop (m + 1 + 1) := by
      obtain ⟨z1, z2⟩ := List.getElem?_eq_some_iff.mp hv
      rw [List.drop_eq_getElem_cons z1, z2]
     refine wpS_bind (a1.rev eC (by rw [hP, List.length_take]; omega) (by rw [List.length_drop, List.length_take]; omega) fun st2 b1 => ?_)
     generalize hU : C.take (m + 1 - 1 - neq) = U at *
     generalize hY : (C.take (m + 1)).drop (m + 1 - 1 - neq) = Y at *
     have lUY : U.length + Y.length = m + 1 := by have := congrArg List.length e2; rw [List.length_take, List.length_append] at this; omega
     have eT : (U ++ (Y.reverse ++ C.drop (m + 1))).take (m + 1 + 1) = (U ++ Y.reverse) ++ [v] := by
      rw [e3, show U ++ (Y.reverse ++ (v :: C.drop (m + 1 + 1))) = ((U ++ Y.reverse) ++ [v]) ++ C.drop (m + 1 + 1) by simp, show m + 1 + 1 = ((U ++ Y.reverse) ++ [v]).length by simp; omega, List.take_left]
     have dUY : DecL L (U ++ Y) := by rw [← e2]; exact a4
     have dR : DecL L (U ++ Y.reverse) := by
      refine List.pairwise_append.mpr ⟨(List.pairwise_append.mp dUY).1, ?_, fun x hx z hz => (List.pairwise_append.mp dUY).2.2 x hx z (List.mem_reverse.mp hz)⟩
      refine List.pairwise_reverse.mpr ?_
      exact List.Pairwise.imp_of_mem (R := fun _ _ => True) (fun {x z} hx hz _ => a6 z hz x hx) (List.pairwise_of_forall fun _ _ => trivial)
     refine wpS_pure ⟨_, 0, rfl, b1, by omega, by omega, ?_, by omega, ?_⟩
     · rw [eT]
       refine snoc dR fun x hx => xv x ?_
       rw [e2]
       rcases List.mem_append.mp hx with hx | hx
       · exact List.mem_append_left _ hx
       · exact List.mem_append_right _ (List.mem_reverse.mp hx)
     · rw [eT]
       exact one (by simp; omega)
   · rw [if_neg hq]
     refine wpS_pure ⟨C, 0, rfl, a1, by omega, by omega, ?_, by omega, ?_⟩
     · rw [zar hv]; exact snoc a4 xv
     · rw [zar hv]; exact one (by simp; omega)
  | false =>
   rw [if_neg (by simp)]
   refine wpS_bind (zdE K (a1.kind hk) eu' ev Su Sv ?_)
   dsimp only
   cases hw2 : L u v with
   | true =>
    rw [if_pos rfl]
    exact wpS_pure ⟨C, _, neq, rfl, a1, a2, a3, a4, a5, a6⟩
   | false =>
    rw [if_neg (by simp)]
    have um : u ∈ (C.take (m + 1)).drop (m + 1 - 1 - neq) := by
     rw [zar hu, List.drop_append_of_le_length (by rw [List.length_take]; omega)]
     simp
    refine wpS_pure ⟨C, _, rfl, a1, by omega, by omega, ?_, by omega, ?_⟩
    · rw [zar hv]; exact snoc a4 fun x hx => O.ntr x u v (xu x hx) hw2
    · rw [zar hv, show m + 1 + 1 - 1 - (neq + 1) = m + 1 - 1 - neq by omega, List.drop_append_of_le_length (by rw [List.length_take]; omega)]
      intro x hx z hz
      rcases List.mem_append.mp hx with hx | hx <;> rcases List.mem_append.mp hz with hz | hz
      · exact a6 x hx z hz
      · rw [List.mem_singleton.mp hz]; exact O.ntr x u v (a6 x hx u um) hw2
      · rw [List.mem_singleton.mp hx]; exact O.ntr v u z hw (a6 u um z hz)
      · rw [List.mem_singleton.mp hx, List.mem_singleton.mp hz]; exact O.irr _
theorem zjf {lo n nrem neq : Nat} {st0 st : SortSt} {P X R C : List Keyed} {Q : Unit → SortSt → Prop} (hP : P.length = lo) (hX : X.length = nrem) (h : At st0 st P X R C) (h2 : n ≤ nrem) (dec : DecL L (C.take n)) (hq : neq < n) (a6 : ∀ x ∈ (C.take n).drop (n - 1 - neq), ∀ z ∈ (C.take n).drop (n - 1 - neq), L x z = false)
 (q : ∀ st' C', At st0 st' P X R C' → DecL L (C'.take n) → Q () st') : wpS (model prog w) A E s (reverseSlice' (lo + n - (neq + 1)) (lo + n)) Q st := by
 have lC : C.length = nrem := by rw [h.perm.length_eq, hX]
 have e2 : C.take n = C.take (n - 1 - neq) ++ (C.take n).drop (n - 1 - neq) := by
  have := List.take_append_drop (n - 1 - neq) (C.take n)
  rw [List.take_take, Nat.min_eq_left (by omega)] at this
  exact this.symm
 have eC : C = C.take (n - 1 - neq) ++ ((C.take n).drop (n - 1 - neq) ++ C.drop n) := by rw [← List.append_assoc, ← e2, List.take_append_drop]
 refine h.rev eC (by rw [hP, List.length_take]; omega) (by rw [List.length_drop, List.length_take]; omega) fun st2 b1 => ?_
 refine q st2 _ b1 ?_
 generalize hU : C.take (n - 1 - neq) = U at *
 generalize hY : (C.take n).drop (n - 1 - neq) = Y at *
 have lUY : U.length + Y.length = n := by have := congrArg List.length e2; rw [List.length_take, List.length_append] at this; omega
 rw [← List.append_assoc, List.take_left' (by simp; omega)]
 have dUY : DecL L (U ++ Y) := by rw [← e2]; exact dec
 refine List.pairwise_append.mpr ⟨(List.pairwise_append.mp dUY).1, ?_, fun x hx z hz => (List.pairwise_append.mp dUY).2.2 x hx z (List.mem_reverse.mp hz)⟩
 refine List.pairwise_reverse.mpr ?_
 exact List.Pairwise.imp_of_mem (R := fun _ _ => True) (fun {x z} hx hz _ => a6 z hz x hx) (List.pairwise_of_forall fun _ _ => trivial)
theorem zfZ (O : LOrd L) (K : Asks prog w A E s κ L S) {lo nrem : Nat} {st : SortSt} {P X R : List Keyed} {Q : Option Nat → SortSt → Prop} (hk : kindOf st = κ) (ha : (arrOf st).toList = P ++ (X ++ R)) (hP : P.length = lo) (hX : X.length = nrem) (hn : 1 ≤ nrem) (hS : ∀ x ∈ X, S x)
 (q : ∀ st' C n, At st st' P X R C → 1 ≤ n → n ≤ nrem → SrtL L (C.take n) → Q (some n) st') : wpS (model prog w) A E s (countRun' lo nrem) Q st := by
 rw [zev]
 dsimp only
 have A0 : At st st P X R X := ⟨⟨_, rfl⟩, ha, List.Perm.refl _⟩
 refine wpS_bind (zfb O K hk hP hX hS A0 (Nat.le_refl _) hn (by cases X <;> simp) fun n h1 h2 srt cs => ?_)
 dsimp only
 by_cases hE : n = nrem
 · rw [if_pos (by simpa using hE)]
   exact wpS_pure (q st X n A0 h1 h2 srt)
 rw [if_neg (by simpa using hE)]
 obtain ⟨u, v, hu, hv, hw⟩ : ∃ u v, X[n - 1]? = some u ∧ X[n]? = some v ∧ L v u = true := by
  rcases cs with z | z
  · exact absurd z hE
  · exact z
 obtain ⟨m, rfl⟩ : ∃ m, n = m + 1 := ⟨n - 1, by omega⟩
 rw [Nat.add_sub_cancel] at hu
 by_cases hn1 : m + 1 > 1
 · rw [if_pos hn1]
   obtain ⟨x0, hx0⟩ : ∃ x0, X[0]? = some x0 := ⟨X[0]'(by omega), List.getElem?_eq_getElem _⟩
   have e0 := A0.get hx0
   have eu := A0.get hu
   rw [hP] at e0 eu
   refine wpS_bind (zdE K hk e0 (by rw [show lo + (m + 1) - 1 = lo + m by omega]; exact eu) (hS _ (List.mem_of_getElem? hx0)) (hS _ (List.mem_of_getElem? hu)) ?_)
   dsimp only
   cases hr : L x0 u with
   | true =>
    rw [if_pos rfl]
    exact wpS_pure (q st X (m + 1) A0 h1 h2 srt)
   | false =>
    rw [if_neg (by simp)]
    refine wpS_bind (A0.rev (U := []) (Y := X.take (m + 1)) (Z := X.drop (m + 1)) (by simp) (by simp [hP]) (by rw [List.length_take]; omega) fun st1 A1 => ?_)
    rw [List.nil_append] at A1
    refine wpS_bind (zcx ?_)
    have e3 : X.drop (m + 1) = v :: X.drop (m + 1 + 1) := by
     obtain ⟨z1, z2⟩ := List.getElem?_eq_some_iff.mp hv
     rw [List.drop_eq_getElem_cons z1, z2]
    have dec0 : DecL L (((X.take (m + 1)).reverse ++ X.drop (m + 1)).take (m + 1 + 1)) := by
     rw [e3, show (X.take (m + 1)).reverse ++ (v :: X.drop (m + 1 + 1)) = ((X.take (m + 1)).reverse ++ [v]) ++ X.drop (m + 1 + 1) by simp, List.take_left' (by simp; omega)]
     refine List.pairwise_append.mpr ⟨List.pairwise_reverse.mpr srt, by simp, fun x hx z hz => ?_⟩
     rw [List.mem_singleton.mp hz]
     have hx := List.mem_reverse.mp hx
     have ge0 : L x x0 = false := by
      have hd : (X.take (m + 1))[0]? = some x0 := by rw [List.getElem?_take, if_pos (by omega)]; exact hx0
      exact zbS O srt hd x (by rw [List.drop_zero]; exact hx)
     exact O.ntr x x0 v ge0 (O.ntr x0 u v hr (O.asym _ _ hw))
    refine wpS_bind (zhX O K hk hP hX hS A1 (by omega) (by omega) dec0 fun st2 C n neq b1 b2 b3 b4 b5 b6 => ?_)
    dsimp only
    by_cases hq : neq > 0
    · rw [if_pos hq]
      refine wpS_bind (zjf (L := L) hP hX b1 b3 b4 b5 b6 fun st3 C' c1 c2 => ?_)
      have lCt : C'.length = nrem := by rw [c1.perm.length_eq, hX]
      refine wpS_bind (c1.rev (U := []) (Y := C'.take n) (Z := C'.drop n) (by simp) (by simp [hP]) (by rw [List.length_take]; omega) fun st4 h4 => ?_)
      rw [List.nil_append] at h4
      refine wpS_bind (zfb O K hk hP hX hS h4 b2 b3 (zdi hX c1 b3 c2) fun n' a1 a2 a3 _ => ?_)
      dsimp only
      exact wpS_pure (q _ _ n' h4 (by omega) a2 a3)
    · rw [if_neg hq]
      have lCt : C.length = nrem := by rw [b1.perm.length_eq, hX]
      refine wpS_bind (b1.rev (U := []) (Y := C.take n) (Z := C.drop n) (by simp) (by simp [hP]) (by rw [List.length_take]; omega) fun st4 h4 => ?_)
      rw [List.nil_append] at h4
      refine wpS_bind (zfb O K hk hP hX hS h4 b2 b3 (zdi hX b1 b3 b4) fun n' a1 a2 a3 _ => ?_)
      dsimp only
      exact wpS_pure (q _ _ n' h4 (by omega) a2 a3)
 · rw [if_neg hn1]
   obtain rfl : m = 0 := by omega
   refine wpS_bind (zcx ?_)
   have dec0 : DecL L (X.take (0 + 1 + 1)) := by
    rw [zar hv, zar hu, List.take_zero]
    simp
    exact O.asym _ _ hw
   refine wpS_bind (zhX O K hk hP hX hS A0 (by omega) (by omega) dec0 fun st2 C n neq b1 b2 b3 b4 b5 b6 => ?_)
   dsimp only
   by_cases hq : neq > 0
   · rw [if_pos hq]
     refine wpS_bind (zjf (L := L) hP hX b1 b3 b4 b5 b6 fun st3 C' c1 c2 => ?_)
     have lCt : C'.length = nrem := by rw [c1.perm.length_eq, hX]
     refine wpS_bind (c1.rev (U := []) (Y := C'.take n) (Z := C'.drop n) (by simp) (by simp [hP]) (by rw [List.length_take]; omega) fun st4 h4 => ?_)
     rw [List.nil_append] at h4
     refine wpS_bind (zfb O K hk hP hX hS h4 b2 b3 (zdi hX c1 b3 c2) fun n' a1 a2 a3 _ => ?_)
     dsimp only
     exact wpS_pure (q _ _ n' h4 (by omega) a2 a3)
   · rw [if_neg hq]
     have lCt : C.length = nrem := by rw [b1.perm.length_eq, hX]
     refine wpS_bind (b1.rev (U := []) (Y := C.take n) (Z := C.drop n) (by simp) (by simp [hP]) (by rw [List.length_take]; omega) fun st4 h4 => ?_)
     rw [List.nil_append] at h4
     refine wpS_bind (zfb O K hk hP hX hS h4 b2 b3 (zdi hX b1 b3 b4) fun n' a1 a2 a3 _ => ?_)
     dsimp only
     exact wpS_pure (q _ _ n' h4 (by omega) a2 a3)
end
abbrev Run := List Keyed × Nat
def flat (rs : List Run) : List Keyed := (rs.map (·.1)).flatten
def pend : Nat → List Run → List (Nat × Nat × Nat)
 | _, [] => []
 | off, (r, p) :: rs => (off, r.length, p) :: pend (off + r.length) rs
theorem zaB (a b : List Run) : flat (a ++ b) = flat a ++ flat b := by unfold flat; simp
theorem zan (r : Run) (b : List Run) : flat (r :: b) = r.1 ++ flat b := by unfold flat; simp
theorem zcp : ∀ (a b : List Run) (off : Nat), pend off (a ++ b) = pend off a ++ pend (off + (flat a).length) b
 | [], b, off => by simp [pend, flat]
 | (r, p) :: a, b, off => by
  rw [List.cons_append, pend, pend, zcp a b, zan, List.length_append, List.cons_append, Nat.add_assoc]
theorem zbu : ∀ (a : List Run) (off : Nat), (pend off a).length = a.length
 | [], _ => rfl
 | (r, p) :: a, off => by rw [pend, List.length_cons, List.length_cons, zbu]
section
variable {prog : Program} {w : World} {A : Around} {E : Value → Shared → Prop} {s : Shared} {κ : SortKind} {L : Keyed → Keyed → Bool} {S : Keyed → Prop}
structure Runs (L : Keyed → Keyed → Bool) (κ : SortKind) (X : List Keyed) (st : SortSt) (rs : List Run) (rest : List Keyed) : Prop where
 kind : kindOf st = κ
 failed : failedOf st = none
 pend : (pendingOf st).toList = pend 0 rs
 arr : (arrOf st).toList = flat rs ++ rest
 perm : (flat rs ++ rest).Perm X
 ok : ∀ r ∈ rs, r.1 ≠ [] ∧ SrtL L r.1
theorem zca (O : LOrd L) (K : Asks prog w A E s κ L S) {X rest : List Keyed} {st : SortSt} {a b : List Run} {x y : Run} {Q : Bool → SortSt → Prop} (hS : ∀ x ∈ X, S x) (h : Runs L κ X st (a ++ x :: y :: b) rest)
 (q : ∀ st' c, Runs L κ X st' (a ++ (c, x.2) :: b) rest → Q true st') : wpS (model prog w) A E s (mergeAt' a.length) Q st := by
 have hp : (pendingOf st).toList = pend 0 a ++ ((flat a).length, x.1.length, x.2) :: ((flat a).length + x.1.length, y.1.length, y.2) :: pend ((flat a).length + x.1.length + y.1.length) b := by
  rw [h.pend, zcp, Nat.zero_add]
  rfl
 have ha : (arrOf st).toList = flat a ++ (x.1 ++ (y.1 ++ (flat b ++ rest))) := by
  rw [h.arr, zaB, zan, zan]
  simp
 have lp := zbu a 0
 obtain ⟨nx, sx⟩ := h.ok x (by simp)
 obtain ⟨ny, sy⟩ := h.ok y (by simp)
 have hm : ∀ z, z ∈ x.1 ∨ z ∈ y.1 → S z := fun z hz => hS z (h.perm.mem_iff.mp (by
  rw [zaB, zan, zan]
  rcases hz with hz | hz <;> simp [hz]))
 refine zgI O K (P := flat a) (Ra := x.1) (Rb := y.1) (R := flat b ++ rest) (pw := x.2) (pw2 := y.2) h.kind h.failed ha ?_ ?_ nx ny sx sy (fun z hz => hm z (.inl hz)) (fun z hz => hm z (.inr hz)) fun st' C h1 h2 h3 h4 h5 h6 => ?_
 · rw [← Array.getElem?_toList, hp, ← lp, List.getElem?_append_right (Nat.le_refl _)]
   simp
 · rw [← Array.getElem?_toList, hp, ← lp, List.getElem?_append_right (by omega)]
   simp
 · have lC : C.length = x.1.length + y.1.length := by rw [h5.length_eq, List.length_append]
   refine q st' C ⟨h1, h2, ?_, ?_, ?_, fun r hr => ?_⟩
   · rw [h3, Array.toList_eraseIdxIfInBounds, Array.toList_setIfInBounds, hp, zcp, pend, Nat.zero_add, ← lp]
     rw [List.set_append_right _ _ (Nat.le_refl _), Nat.sub_self, List.set_cons_zero, List.eraseIdx_append_of_length_le (by omega)]
     rw [show (pend 0 a).length + 1 - (pend 0 a).length = 1 by omega, lC]
     simp [Nat.add_assoc]
   · rw [h4, zaB, zan]
     simp
   · refine List.Perm.trans ?_ h.perm
     rw [zaB, zaB, zan, zan, zan]
     simp only [List.append_assoc]
     refine List.Perm.append_left _ ?_
     rw [← List.append_assoc x.1]
     exact List.Perm.append_right _ h5
   · rcases List.mem_append.mp hr with hr | hr
     · exact h.ok r (by simp [hr])
     · rcases List.mem_cons.mp hr with rfl | hr
       · refine ⟨fun z => ?_, h6⟩
         have z : C = [] := z
         rw [z] at lC
         have := List.length_pos_iff.mpr nx
         simp at lC
         omega
       · exact h.ok r (by simp [hr])
theorem zgk {α : Type} (f : α → α) (t : α) : ∀ p : List α, (p ++ [t]).modify p.length f = p ++ [f t]
 | [] => rfl
 | a :: p => by
  show a :: (p ++ [t]).modify p.length f = a :: (p ++ [f t])
  rw [zgk f t p]
theorem Runs.push {X rest' r : List Keyed} {st : SortSt} {rs : List Run} (h : Runs L κ X st rs (r ++ rest')) (hr : r ≠ []) (sr : SrtL L r) {lo n : Nat} (hlo : lo = (flat rs).length) (hn : n = r.length) : Runs L κ X (setPending st ((pendingOf st).push (lo, n, 0))) (rs ++ [(r, 0)]) rest' := by
 subst hlo hn
 refine ⟨h.kind, h.failed, ?_, ?_, ?_, fun x hx => ?_⟩
 · show ((pendingOf st).push _).toList = _
   rw [Array.toList_push, h.pend, zcp, Nat.zero_add]
   rfl
 · show (arrOf st).toList = _
   rw [h.arr, zaB, zan]
   simp [flat]
 · have := h.perm
   rw [zaB, zan]
   simpa [flat] using this
 · rcases List.mem_append.mp hx with hx | hx
   · exact h.ok x hx
   · rw [List.mem_singleton.mp hx]; exact ⟨hr, sr⟩
theorem Runs.power {X rest : List Keyed} {st : SortSt} {a : List Run} {x : Run} (h : Runs L κ X st (a ++ [x]) rest) (pw : Nat) : Runs L κ X (setPending st ((pendingOf st).modify ((pendingOf st).size - 1) fun t => (t.1, t.2.1, pw))) (a ++ [(x.1, pw)]) rest := by
 have lp : (pendingOf st).size = a.length + 1 := by
  have := congrArg List.length h.pend
  rw [zbu] at this
  simpa using this
 have fl : flat (a ++ [(x.1, pw)]) = flat (a ++ [x]) := by rw [zaB, zaB, zan, zan]
 refine ⟨h.kind, h.failed, ?_, ?_, ?_, fun y hy => ?_⟩
 · show ((pendingOf st).modify _ _).toList = _
   rw [Array.toList_modify, h.pend, lp, zcp, zcp, Nat.add_sub_cancel]
   have := zbu a 0
   rw [← this]
   exact zgk _ _ _
 · show (arrOf st).toList = _
   rw [h.arr, fl]
 · rw [fl]; exact h.perm
 · rcases List.mem_append.mp hy with hy | hy
   · exact h.ok y (by simp [hy])
   · rw [List.mem_singleton.mp hy]; exact h.ok x (by simp)
theorem ziu {X rest : List Keyed} {st : SortSt} {rs : List Run} (h : Runs L κ X st rs rest) : rs.length ≤ (flat rs).length := by
 have go : ∀ l : List Run, (∀ r ∈ l, r.1 ≠ []) → l.length ≤ (flat l).length := by
  intro l
  induction l with
  | nil => intro _; exact Nat.zero_le _
  | cons r l ih =>
   intro hr
   have h1 := ih fun x hx => hr x (List.mem_cons_of_mem _ hx)
   have h2 := List.length_pos_iff.mpr (hr r (by simp))
   rw [zan, List.length_append, List.length_cons]
   omega
 exact go rs fun r hr => (h.ok r hr).1
theorem zdl {l : List Run} {j : Nat} (h : j + 2 ≤ l.length) : ∃ a x y b, l = a ++ x :: y :: b ∧ a.length = j := by
 refine ⟨l.take j, l[j]'(by omega), l[j + 1]'(by omega), l.drop (j + 2), ?_, by rw [List.length_take]; omega⟩
 rw [← List.drop_eq_getElem_cons (by omega), ← List.drop_eq_getElem_cons (by omega), List.take_append_drop]
theorem zfn (O : LOrd L) (K : Asks prog w A E s κ L S) {X : List Keyed} {st : SortSt} {Q : Unit → SortSt → Prop} (hk : kindOf st = κ) (hf : failedOf st = none) (hp : pendingOf st = #[]) (hX : (arrOf st).toList = X) (hS : ∀ x ∈ X, S x)
 (q : ∀ st', failedOf st' = none → (arrOf st').toList.Perm X → SrtL L (arrOf st').toList → Q () st') : wpS (model prog w) A E s sortRuns' Q st := by
 rw [sortRuns'_eq]
 refine wpS_bind (wpS_get ?_)
 dsimp only
 have hN : (arrOf st).size = X.length := by rw [← hX]; simp
 have R0 : Runs L κ X st [] X := ⟨hk, hf, by rw [hp]; rfl, by rw [hX]; rfl, List.Perm.refl _, fun r hr => by simp at hr⟩
 refine wpS_bind (wpS_mono (wpS_forRange
  (I := fun y c st' => ∃ rs rest, c = (none, (flat rs).length) ∧ Runs L κ X st' rs rest ∧ (y ≤ (flat rs).length ∨ rest = []))
  (Q := fun c st' => ∃ rs, c = (none, (flat rs).length) ∧ Runs L κ X st' rs []) ?step ?fin ⟨[], X, rfl, R0, .inl (Nat.zero_le _)⟩) ?post)
 case fin =>
  rintro c st' ⟨rs, rest, rfl, h, h2⟩
  have e := h.perm.length_eq
  rw [List.length_append] at e
  have : rest = [] := by
   rcases h2 with z | z
   · exact List.length_eq_zero_iff.mp (by omega)
   · exact z
  subst this
  exact ⟨rs, rfl, h⟩
 case post =>
  rintro c st' ⟨rs, rfl, h⟩
  dsimp only
  have e := h.perm.length_eq
  rw [List.append_nil] at e
  refine wpS_bind (wpS_mono (wpS_forRange
   (I := fun y c st'' => c = (none, ()) ∧ ∃ rs', Runs L κ X st'' rs' [] ∧ (rs'.length + y ≤ X.length ∨ rs'.length ≤ 1))
   (Q := fun c st'' => c = (none, ()) ∧ ∃ rs', Runs L κ X st'' rs' [] ∧ rs'.length ≤ 1) ?step2 ?fin2 ⟨rfl, rs, h, .inl (by have := ziu h; omega)⟩) ?post2)
  case fin2 =>
   rintro c st'' ⟨rfl, rs', h', h2⟩
   refine ⟨rfl, rs', h', ?_⟩
   rcases h2 with z | z <;> omega
  case post2 =>
   rintro c st'' ⟨rfl, rs', h', h2⟩
   dsimp only
   refine wpS_pure (q st'' h'.failed ?_ ?_)
   · rw [h'.arr]; exact h'.perm
   · rw [h'.arr, List.append_nil]
     match rs', h2, h' with
     | [], _, _ => simp [flat]
     | [r], _, h' => rw [zan]; simp only [flat, List.map_nil, List.flatten_nil, List.append_nil]; exact (h'.ok r (by simp)).2
  case step2 =>
   rintro y c st'' _ hy ⟨rfl, rs', h', h2⟩
   refine wpS_bind (wpS_get ?_)
   have pl : (pendingOf st'').size = rs'.length := by
    have := congrArg List.length h'.pend
    rw [zbu] at this
    simpa using this
   by_cases h3 : (pendingOf st'').size ≤ 1
   · rw [if_pos h3]
     exact wpS_pure ⟨rfl, rs', h', by omega⟩
   · rw [if_neg h3]
     have gen : ∀ j, j + 2 ≤ rs'.length → ∀ Q' : Bool → SortSt → Prop, (∀ st4 rs4, Runs L κ X st4 rs4 [] → rs4.length + 1 = rs'.length → Q' true st4) → wpS (model prog w) A E s (mergeAt' j) Q' st'' := fun j hj Q' q' => by
      obtain ⟨aa, x1, x2, bb, e1, e2⟩ := zdl hj
      rw [← e2]
      rw [e1] at h'
      refine zca O K hS h' fun st4 c4 R4 => q' st4 _ R4 ?_
      rw [e1]
      simp only [List.length_append, List.length_cons]
      omega
     refine wpS_bind (gen _ ?_ _ fun st4 rs4 R4 l4 => ?_)
     · have any : ∀ (c : Prop) [Decidable c], (if c then (pendingOf st'').size - 2 - 1 else (pendingOf st'').size - 2) + 2 ≤ rs'.length := fun c _ => by split <;> omega
       exact any _
     · rw [if_neg (by simp)]
       exact wpS_pure ⟨rfl, rs4, R4, by omega⟩
 case step =>
  rintro y c st' _ hy ⟨rs, rest, rfl, h, h2⟩
  dsimp only
  have e := h.perm.length_eq
  rw [List.length_append] at e
  by_cases h3 : (flat rs).length ≥ (arrOf st).size
  · rw [if_pos h3]
    have : rest = [] := List.length_eq_zero_iff.mp (by omega)
    subst this
    exact wpS_pure ⟨rs, rfl, h⟩
  rw [if_neg h3]
  have hy2 : y ≤ (flat rs).length := by
   rcases h2 with z | z
   · exact z
   · rw [z] at e; simp at e; omega
  have hSr : ∀ x ∈ rest, S x := fun x hx => hS x (h.perm.mem_iff.mp (List.mem_append_right _ hx))
  refine wpS_bind (zfZ O K h.kind (P := flat rs) (X := rest) (R := []) (by rw [h.arr]; simp) rfl (by omega) (by omega) hSr fun st1 C n A1 n1 n2 srt => ?_)
  dsimp only
  have lC : C.length = rest.length := A1.perm.length_eq
  have a1 : (arrOf st1).toList = flat rs ++ C := by rw [A1.arr]; simp
  have R1 : Runs L κ X st1 rs C := by
   obtain ⟨xs, hxs⟩ := A1.same
   subst hxs
   exact ⟨h.kind, h.failed, h.pend, a1, (List.Perm.append_left _ A1.perm).trans h.perm, h.ok⟩
  by_cases hm : n < minRun' (arrOf st).size (arrOf st).size 0
  · rw [if_pos hm]
    refine wpS_bind (zcx ?_)
    generalize hfo : min ((arrOf st).size - (flat rs).length) (minRun' (arrOf st).size (arrOf st).size 0) = force
    have f1 : force ≤ rest.length := by omega
    have f2 : n ≤ force := by omega
    have ltf : (C.take force).length = force := by rw [List.length_take]; omega
    refine wpS_bind (zez O K R1.kind (P := flat rs) (X := C.take force) (R := C.drop force) (by rw [List.take_append_drop]; exact a1) rfl ltf (by omega) f2 (by rw [List.take_take, Nat.min_eq_left f2]; exact srt) (fun x hx => hSr x (A1.perm.mem_iff.mp (List.mem_of_mem_take hx))) fun st2 D s2 a2 p2 sD => ?_)
    rw [if_neg (by simp)]
    have lD : D.length = force := by rw [p2.length_eq, ltf]
    have RR : Runs L κ X st2 rs (D ++ C.drop force) := by
     obtain ⟨xs, hxs⟩ := s2
     subst hxs
     refine ⟨R1.kind, R1.failed, R1.pend, a2, List.Perm.trans (List.Perm.append_left _ ?_) R1.perm, R1.ok⟩
     conv => rhs; rw [← List.take_append_drop force C]
     exact List.Perm.append_right _ p2
    have Dne : D ≠ [] := fun z => by rw [z] at lD; simp at lD; omega
    refine wpS_bind (wpS_get ?_)
    have lo2 : rs = [] ∨ ∃ a x, rs = a ++ [x] := by
     rcases List.eq_nil_or_concat rs with z | ⟨a, x, z⟩
     · exact .inl z
     · exact .inr ⟨a, x, by rw [z]; simp⟩
    have pl : (pendingOf st2).size = rs.length := by
     have := congrArg List.length RR.pend
     rw [zbu] at this
     simpa using this
    rcases lo2 with hrs | ⟨a, x, hrs⟩
    · have e0 : (pendingOf st2).back? = none := by
       have : (pendingOf st2) = #[] := Array.eq_empty_of_size_eq_zero (by rw [pl, hrs]; rfl)
       rw [this]; rfl
      rw [e0]
      dsimp only
      refine wpS_bind (wpS_modify (wpS_pure ?_))
      refine ⟨rs ++ [(D, 0)], (C.drop force), ?_, RR.push Dne sD rfl lD.symm, .inl ?_⟩
      · rw [zaB, zan, List.length_append, List.length_append, lD]; simp [flat]
      · rw [zaB, zan, List.length_append, List.length_append, lD]; omega
    · obtain ⟨⟨t1, t2, t3⟩, e0⟩ : ∃ t, (pendingOf st2).back? = some t := by
       rw [Array.back?_eq_getElem?]
       exact ⟨_, Array.getElem?_eq_getElem (by rw [pl, hrs]; simp)⟩
      rw [e0]
      dsimp only
      refine wpS_bind (wpS_mono (wpS_forRange
       (I := fun z c st'' => c = (none, ()) ∧ ∃ rs', rs' ≠ [] ∧ Runs L κ X st'' rs' (D ++ (C.drop force)) ∧ (flat rs').length = (flat rs).length)
       (Q := fun c st'' => c = (none, ()) ∧ ∃ rs', rs' ≠ [] ∧ Runs L κ X st'' rs' (D ++ (C.drop force)) ∧ (flat rs').length = (flat rs).length) ?_ (fun c st'' h => h) ⟨rfl, rs, by rw [hrs]; simp, RR, rfl⟩) ?_)
      · rintro z c st'' _ _ ⟨rfl, rs', r1, r2, r3⟩
        refine wpS_bind (wpS_get ?_)
        have pl' : (pendingOf st'').size = rs'.length := by
         have := congrArg List.length r2.pend
         rw [zbu] at this
         simpa using this
        by_cases h2 : (pendingOf st'').size > 1
        · rw [if_pos h2]
          obtain ⟨⟨o1, o2, older⟩, eo⟩ : ∃ t, (pendingOf st'')[(pendingOf st'').size - 2]? = some t := ⟨_, Array.getElem?_eq_getElem (by omega)⟩
          rw [eo]
          dsimp only
          split
          · exact wpS_pure ⟨rfl, rs', r1, r2, r3⟩
          · obtain ⟨aa, x1, x2, bb, e1, e2⟩ := zdl (l := rs') (j := (pendingOf st'').size - 2) (by omega)
            rw [← e2]
            rw [e1] at r2 r3
            refine wpS_bind (zca O K hS r2 fun st4 c4 R4 => ?_)
            rw [if_neg (by simp)]
            refine wpS_pure ⟨rfl, _, by simp, R4, ?_⟩
            have w1 := congrArg List.length R4.arr
            have w2 := R4.perm.length_eq
            have w3 := r2.perm.length_eq
            rw [List.length_append] at w2 w3
            omega
        · rw [if_neg h2]
          exact wpS_pure ⟨rfl, rs', r1, r2, r3⟩
      · rintro c st'' ⟨rfl, rs', r1, r2, r3⟩
        dsimp only
        obtain ⟨a', x', hrs'⟩ : ∃ a x, rs' = a ++ [x] := by
         rcases List.eq_nil_or_concat rs' with z | ⟨a, x, z⟩
         · exact absurd z r1
         · exact ⟨a, x, by rw [z]; simp⟩
        rw [hrs'] at r2 r3
        refine wpS_bind (wpS_modify (wpS_bind (wpS_modify (wpS_pure ?_))))
        have R5 := r2.power (power' (arrOf st).size (2 * t1 + t2) (2 * t1 + t2 + t2 + force) (arrOf st).size)
        have fl : (flat (a' ++ [(x'.1, power' (arrOf st).size (2 * t1 + t2) (2 * t1 + t2 + t2 + force) (arrOf st).size)])).length = (flat rs).length := by rw [← r3, zaB, zaB, zan, zan]
        refine ⟨(a' ++ [(x'.1, power' (arrOf st).size (2 * t1 + t2) (2 * t1 + t2 + t2 + force) (arrOf st).size)]) ++ [(D, 0)], (C.drop force), ?_, R5.push Dne sD fl.symm lD.symm, .inl ?_⟩
        · rw [zaB, zan, List.length_append, List.length_append, fl, lD]; simp [flat]
        · rw [zaB, zan, List.length_append, List.length_append, fl, lD]; omega
  · rw [if_neg hm]
    have RR : Runs L κ X st1 rs (C.take n ++ C.drop n) := by rw [List.take_append_drop]; exact R1
    have lT : (C.take n).length = n := by rw [List.length_take]; omega
    have Dne : C.take n ≠ [] := fun z => by rw [z] at lT; simp at lT; omega
    refine wpS_bind (wpS_get ?_)
    have lo2 : rs = [] ∨ ∃ a x, rs = a ++ [x] := by
     rcases List.eq_nil_or_concat rs with z | ⟨a, x, z⟩
     · exact .inl z
     · exact .inr ⟨a, x, by rw [z]; simp⟩
    have pl : (pendingOf st1).size = rs.length := by
     have := congrArg List.length RR.pend
     rw [zbu] at this
     simpa using this
    rcases lo2 with hrs | ⟨a, x, hrs⟩
    · have e0 : (pendingOf st1).back? = none := by
       have : (pendingOf st1) = #[] := Array.eq_empty_of_size_eq_zero (by rw [pl, hrs]; rfl)
       rw [this]; rfl
      rw [e0]
      dsimp only
      refine wpS_bind (wpS_modify (wpS_pure ?_))
      refine ⟨rs ++ [((C.take n), 0)], (C.drop n), ?_, RR.push Dne srt rfl lT.symm, .inl ?_⟩
      · rw [zaB, zan, List.length_append, List.length_append, lT]; simp [flat]
      · rw [zaB, zan, List.length_append, List.length_append, lT]; omega
    · obtain ⟨⟨t1, t2, t3⟩, e0⟩ : ∃ t, (pendingOf st1).back? = some t := by
       rw [Array.back?_eq_getElem?]
       exact ⟨_, Array.getElem?_eq_getElem (by rw [pl, hrs]; simp)⟩
      rw [e0]
      dsimp only
      refine wpS_bind (wpS_mono (wpS_forRange
       (I := fun z c st'' => c = (none, ()) ∧ ∃ rs', rs' ≠ [] ∧ Runs L κ X st'' rs' ((C.take n) ++ (C.drop n)) ∧ (flat rs').length = (flat rs).length)
       (Q := fun c st'' => c = (none, ()) ∧ ∃ rs', rs' ≠ [] ∧ Runs L κ X st'' rs' ((C.take n) ++ (C.drop n)) ∧ (flat rs').length = (flat rs).length) ?_ (fun c st'' h => h) ⟨rfl, rs, by rw [hrs]; simp, RR, rfl⟩) ?_)
      · rintro z c st'' _ _ ⟨rfl, rs', r1, r2, r3⟩
        refine wpS_bind (wpS_get ?_)
        have pl' : (pendingOf st'').size = rs'.length := by
         have := congrArg List.length r2.pend
         rw [zbu] at this
         simpa using this
        by_cases h2 : (pendingOf st'').size > 1
        · rw [if_pos h2]
          obtain ⟨⟨o1, o2, older⟩, eo⟩ : ∃ t, (pendingOf st'')[(pendingOf st'').size - 2]? = some t := ⟨_, Array.getElem?_eq_getElem (by omega)⟩
          rw [eo]
          dsimp only
          split
          · exact wpS_pure ⟨rfl, rs', r1, r2, r3⟩
          · obtain ⟨aa, x1, x2, bb, e1, e2⟩ := zdl (l := rs') (j := (pendingOf st'').size - 2) (by omega)
            rw [← e2]
            rw [e1] at r2 r3
            refine wpS_bind (zca O K hS r2 fun st4 c4 R4 => ?_)
            rw [if_neg (by simp)]
            refine wpS_pure ⟨rfl, _, by simp, R4, ?_⟩
            have w1 := congrArg List.length R4.arr
            have w2 := R4.perm.length_eq
            have w3 := r2.perm.length_eq
            rw [List.length_append] at w2 w3
            omega
        · rw [if_neg h2]
          exact wpS_pure ⟨rfl, rs', r1, r2, r3⟩
      · rintro c st'' ⟨rfl, rs', r1, r2, r3⟩
        dsimp only
        obtain ⟨a', x', hrs'⟩ : ∃ a x, rs' = a ++ [x] := by
         rcases List.eq_nil_or_concat rs' with z | ⟨a, x, z⟩
         · exact absurd z r1
         · exact ⟨a, x, by rw [z]; simp⟩
        rw [hrs'] at r2 r3
        refine wpS_bind (wpS_modify (wpS_bind (wpS_modify (wpS_pure ?_))))
        have R5 := r2.power (power' (arrOf st).size (2 * t1 + t2) (2 * t1 + t2 + t2 + n) (arrOf st).size)
        have fl : (flat (a' ++ [(x'.1, power' (arrOf st).size (2 * t1 + t2) (2 * t1 + t2 + t2 + n) (arrOf st).size)])).length = (flat rs).length := by rw [← r3, zaB, zaB, zan, zan]
        refine ⟨(a' ++ [(x'.1, power' (arrOf st).size (2 * t1 + t2) (2 * t1 + t2 + t2 + n) (arrOf st).size)]) ++ [((C.take n), 0)], (C.drop n), ?_, R5.push Dne srt fl.symm lT.symm, .inl ?_⟩
        · rw [zaB, zan, List.length_append, List.length_append, fl, lT]; simp [flat]
        · rw [zaB, zan, List.length_append, List.length_append, fl, lT]; omega
end
end L2
set_option maxHeartbeats 1000000
namespace L2
open PySem PySem.Spec PyProof.Rows PySem.W
theorem ziF {α β : Type} (f : α → β) {l' m : List β} (h : l'.Perm m) : ∀ l : List α, l.map f = m → ∃ p : List α, p.Perm l ∧ p.map f = l' := by
 induction h with
 | nil => intro l e; exact ⟨[], by rw [List.map_eq_nil_iff.mp e], rfl⟩
 | cons x h ih =>
  intro l e
  cases l with
  | nil => cases e
  | cons a l =>
   rw [List.map_cons] at e
   injection e with e1 e2
   obtain ⟨p, p1, p2⟩ := ih l e2
   exact ⟨a :: p, p1.cons a, by rw [List.map_cons, p2, e1]⟩
 | swap x y t =>
  intro l e
  match l, e with
  | a :: b :: l, e =>
   simp only [List.map_cons, List.cons.injEq] at e
   obtain ⟨e1, e2, e3⟩ := e
   exact ⟨b :: a :: l, List.Perm.swap _ _ _, by simp [e1, e2, e3]⟩
 | trans h1 h2 ih1 ih2 =>
  intro l e
  obtain ⟨p, p1, p2⟩ := ih2 l e
  obtain ⟨r, r1, r2⟩ := ih1 p p2
  exact ⟨r, r1.trans p1, r2⟩
section
variable {prog : Program} {w : World} {A : Around} {E : Value → Shared → Prop} {s : Shared} {κ : SortKind}
theorem zkC {x y : Keyed} {st : SortSt} {Q : Option Bool → SortSt → Prop} {r : Bool} (hk : kindOf st = κ)
 (h : ∀ C : Bool → Shared → Prop, C r s → wpAny (model prog w) A (keyLt' κ x.1 y.1) C (fun _ _ => False) s) (q : Q (some r) st) : wpS (model prog w) A E s (lt' x y) Q st := by
 rw [lt'_eq]
 refine wpS_bind (wpS_get ?_)
 rw [hk]
 refine wpS_bind (wpS_lift (wpAny_attempt (wpAny_mono (h (fun b s' => s' = s ∧ b = r) ⟨rfl, rfl⟩) (fun b s' ⟨e1, e2⟩ => ?_) fun _ _ z => z.elim)))
 subst e1 e2
 exact ⟨rfl, wpS_pure q⟩
theorem zir {its : Array Keyed} {lt : Nat → Nat → Bool} (O : KS.Ord lt) (cons : ∀ i j i' j', its[i]? = its[i']? → its[j]? = its[j']? → i < its.size → j < its.size → i' < its.size → j' < its.size → lt i j = lt i' j')
 (hc : ∀ i j x y, its[i]? = some x → its[j]? = some y → ∀ C : Bool → Shared → Prop, C (lt i j) s → wpAny (model prog w) A (keyLt' κ x.1 y.1) C (fun _ _ => False) s)
 {Q : Unit → SortSt → Prop} (q : ∀ st' (p : Array Nat), failedOf st' = none → KS.Ok its.size p → KS.Srt lt p its.size → (arrOf st').toList = p.toList.map (fun i => its.getD i (Value.none, Value.none)) → Q () st') :
 wpS (model prog w) A E s sortRuns' Q (SortSt.mk' κ its #[] 7 none) := by
 classical
 let ix : Keyed → Nat := fun x => (its.toList.findIdx? (fun z => decide (z = x))).getD 0
 have hix : ∀ x ∈ its.toList, its[ix x]? = some x ∧ ix x < its.size := fun x hx => by
  obtain ⟨i, hi⟩ : ∃ i, its.toList.findIdx? (fun z => decide (z = x)) = some i := by
   cases e : its.toList.findIdx? (fun z => decide (z = x)) with
   | some i => exact ⟨i, rfl⟩
   | none =>
    have := List.findIdx?_eq_none_iff.mp e x hx
    simp at this
  have e : ix x = i := by show (its.toList.findIdx? _).getD 0 = i; rw [hi]; rfl
  obtain ⟨h1, h2, _⟩ := List.findIdx?_eq_some_iff_getElem.mp hi
  have h2 := of_decide_eq_true h2
  rw [e]
  refine ⟨?_, by simpa using h1⟩
  rw [← Array.getElem?_toList, List.getElem?_eq_getElem h1, h2]
 refine zfn (L := fun x y => lt (ix x) (ix y)) (S := fun x => x ∈ its.toList) ⟨fun x y h => O.as _ _ h, fun x y z h1 h2 => O.tr _ _ _ h2 h1⟩ (fun x y st Q hx hy hk q => ?_) (X := its.toList) rfl rfl rfl rfl (fun x hx => hx) fun st' hf pm sr => ?_
 · exact zkC hk (hc _ _ x y (hix x hx).1 (hix y hy).1) q
 · have em : (List.range its.size).map (fun i => its.getD i (Value.none, Value.none)) = its.toList := by
    apply List.ext_getElem
    · simp
    · intro n h1 h2
      simp at h1 h2
      simp [h1]
   obtain ⟨p, p1, p2⟩ := ziF _ pm _ em
   refine q st' p.toArray hf ⟨by simpa using p1⟩ (fun i j hij hj => ?_) (by simpa using p2.symm)
   have hl : p.length = its.size := by have := p1.length_eq; simpa using this
   rw [← p2] at sr
   have := List.pairwise_iff_getElem.mp sr i j (by simp; omega) (by simp; omega) hij
   simp only [List.getElem_map] at this
   have hb : ∀ k (hk : k < p.length), p[k] < its.size := fun k hk => List.mem_range.mp (p1.mem_iff.mp (List.getElem_mem hk))
   have key : ∀ k (hk : k < p.length), its[ix (its.getD p[k] (Value.none, Value.none))]? = its[p[k]]? ∧ ix (its.getD p[k] (Value.none, Value.none)) < its.size := fun k hk => by
    have b := hb k hk
    have e : its.getD p[k] (Value.none, Value.none) = its[p[k]] := by simp [b]
    have := hix its[p[k]] (by simp)
    rw [e]
    exact ⟨by rw [this.1]; simp [b], this.2⟩
   have c1 := key j (by omega)
   have c2 := key i (by omega)
   have := (cons _ _ _ _ c1.1 c2.1 c1.2 c2.2 (hb j (by omega)) (hb i (by omega))).symm.trans this
   show lt (KS.K p.toArray j) (KS.K p.toArray i) = false
   have ek : ∀ k (hk : k < p.length), KS.K p.toArray k = p[k] := fun k hk => by unfold KS.K; simp [hk]
   rw [ek j (by omega), ek i (by omega)]
   exact this
end
end L2
namespace L2
open PySem PySem.Spec PyProof.Rows PySem.W
theorem zhG {prog : Program} {w : World} {A : Around} {s : Shared} {xs ys : Array Value} {b : Bool} {j : Nat} {Q : Bool → Shared → Prop} (F : FirstAt A s xs ys b j) (h : Q b s) : ∀ k i, j - i = k → i ≤ j → KatLex prog w A false (decide (xs.size < ys.size)) Q ((xs.toList.zip ys.toList).drop i) i s := by
 intro k
 induction k with
 | zero =>
  intro i hk hij
  obtain rfl : i = j := by omega
  rcases F.fin with ⟨hs, hc⟩ | ⟨h1, h2, he, hlt⟩
  · rw [List.drop_of_length_le (by simp; omega)]
    exact kat_nil (hc ▸ h)
  · rw [List.drop_eq_getElem_cons (by simp; omega)]
    simp only [List.getElem_zip, Array.getElem_toList]
    refine kat_cons (he _ _ _ _ (kat_no ?_))
    rw [Bool.false_and]
    exact kat_one _ _ (hlt _ _ _ _ h)
 | succ k ih =>
  intro i hk hij
  have f1 := F.le1
  have f2 := F.le2
  rw [List.drop_eq_getElem_cons (by simp; omega)]
  simp only [List.getElem_zip, Array.getElem_toList]
  exact kat_cons (F.same i (by omega) (by omega) (by omega) _ _ _ _ (kat_yes (ih (i + 1) (by omega) (by omega))))
theorem zgU {M : Model} {h : Heap} : ∀ ks : List Value, (∀ k ∈ ks, ∃ a o xs n f, k = .ref a ∧ h.get? a = some o ∧ o.cls = .type "tuple" ∧ o.data = .seq xs n ∧ xs[0]? = some f ∧ Looks M h (typeOf f) (.type "tuple")) → ∃ fs, KatTups h ks fs ∧ fs.length = ks.length ∧ ∀ v ∈ fs, Looks M h (typeOf v) (.type "tuple")
 | [], _ => ⟨[], .nil, rfl, fun v hv => by simp at hv⟩
 | k :: ks, hp => by
  obtain ⟨fs, h1, h2, h3⟩ := zgU ks fun q hq => hp q (List.mem_cons_of_mem _ hq)
  obtain ⟨a, o, xs, n, f, rfl, e, c, d, g, l⟩ := hp k List.mem_cons_self
  refine ⟨f :: fs, .cons e c d g h1, by rw [List.length_cons, h2, List.length_cons], fun v hv => ?_⟩
  rcases List.mem_cons.mp hv with z | z
  · rw [z]; exact l
  · exact h3 v z
def zf6 (n : Nat) (kd : Nat → PD) : Prop := n < 2 ∨ (∀ i, ∃ ds, kd i = .lst ds) ∨ ∀ i, i < n → ∃ d ds, kd i = .tup (.tup d :: ds)
section
variable {X : Cx} {pins : List (Addr × Obj)} {σ : St} {H : Hp} {s : Shared} {a : Addr} {o : HO}
theorem zhJ {kS : Addr} {f : Value} {vs : List V} {us : List Value} {kd : Nat → PD} {e1 : Nat} {P : PySem.Fin → Shared → Prop} {E : Value → Shared → Prop}
 (I : Inv X ((a, seqObj "list" #[] e1) :: (kS, seqObj "list" #[] 0) :: pins) σ H s) (Fa : FpOk X pins H a) (Fk : FpOk X pins H kS) (ha0 : X.s₀.heap.get? a = none) (hak : kS ≠ a) (rv : Vals vs us) (h64 : us.length ≤ 1000) (hcons : ∀ i j : Nat, i < us.length → j < us.length → us[i]? = us[j]? → kd i = kd j)
 (turn : ∀ i v u, vs[i]? = some v → us[i]? = some u → ∀ pins' s' H', Inv X pins' σ H' s' → Same H H' → wpAny (model X.prog X.w) X.A (call f [u]) (EP X pins' σ fun kv H'' => Same H' H'' ∧ Rep X.K H'' (kd i) kv) (fun _ _ => False) s')
 (hl : zf6 us.length kd) (hd : ∀ i, X.A.units + 2 + zay (kd i) < cLine)
 (hok : ∀ i j, i < us.length → j < us.length → ltOk (kd i) (kd j) = true) (O : KS.Ord fun i j => pyLt (kd i) (kd j))
 (h : ∀ (p : Array Nat) s' H', KS.Ok us.length p → KS.Srt (fun i j => pyLt (kd i) (kd j)) p us.length → Same H H' → H' a = none → Inv X pins σ (upd H' a (.lst (p.toList.map fun i => vs.getD i .non))) s' → P (.done (.ret .none)) s') :
 wpAny (model X.prog X.w) X.A (ksk_rest a f false us.toArray e1 (.ref kS)) P E s := by
 have lv := rv.length
 unfold ksk_rest
 refine wpAny_bind (wpAny_rule ?_)
 rw [List.forIn_toArray]
 refine wpAny_bind (ksk_fold (fun i s' => ∃ H' kvs kA e, Inv X ((a, seqObj "list" #[] e1) :: (kS, seqObj "list" kA e) :: pins) σ H' s' ∧ Same H H' ∧ Vals kvs kA.toList ∧ kvs.length = i ∧ ∀ j kv, kvs[j]? = some kv → Rep X.K H' (kd j) kv) us 0 s
  ⟨H, [], #[], 0, I, Same.refl _, .nil, rfl, fun j kv e => by simp at e⟩ ?step ?done)
 case step =>
  rintro j x s' hx ⟨H1, kvs, kA, e, I1, S1, rk, lk, rp⟩
  simp only [Nat.zero_add] at lk ⊢
  have hj : j < us.length := (List.getElem?_eq_some_iff.mp hx).1
  obtain ⟨v, hv⟩ : ∃ v, vs[j]? = some v := ⟨_, List.getElem?_eq_getElem (by omega)⟩
  refine wpAny_bind (wpAny_attempt (wpAny_mono (turn j v x hv hx _ s' H1 I1 S1) (fun u s2 he => ?_) fun _ _ hF => hF.elim))
  obtain ⟨kv, H2, I2, r2, S2, R2⟩ := he
  dsimp only
  obtain ⟨nk, nk1, nk2, nk3, nk4⟩ := I2.pin (kS, seqObj "list" kA e) (List.mem_append_right _ (.tail _ (.head _)))
  obtain ⟨na, na1, na2, na3, na4⟩ := I2.pin (a, seqObj "list" #[] e1) (List.mem_append_right _ (.head _))
  have hz : kA.size = j := by
   have h1 : kvs.length = kA.size := by have := rk.length; simpa using this
   rw [← h1, lk]
  have s1 := Heap.SameBut.update s2.heap kS (Obj.mapSeq (·.push u))
  obtain ⟨c2, hc2⟩ : ∃ c2, (s2.heap.update kS (Obj.mapSeq (·.push u))).get? kS = some (seqObj "list" (kA.push u) c2) := ⟨_, get?_update_seq nk (·.push u)⟩
  refine wpAny_bind (listUpdate_at nk rfl ?_ (by rw [sizeLine_eq]; omega) (Nat.le_trans (Nat.le_of_eq (Array.size_push ..)) (by rw [sizeLine_eq]; omega)))
  have I3 : Inv X pins σ H2 s2 := I2.pins_of fun p hp => I2.pin p (List.mem_append_right _ (.tail _ (.tail _ hp)))
  have I4 : Inv X pins σ H2 { s2 with heap := s2.heap.update kS (Obj.mapSeq (·.push u)), toks := s2.toks } := I3.turned (it := kS) (fun b o hb q => (s1.2 b hb).trans q) nk1 nk2 Fk.2.2.2.1 Fk.2.2.2.2.1 Fk.2.2.2.2.2
  refine wpAny_pure ⟨rfl, H2, kvs ++ [kv], kA.push u, c2, I4.pins_of fun p hp => ?_, S1.trans S2, ?_, by rw [List.length_append]; simp [lk], fun i kv' e' => ?_⟩
  · rcases List.mem_cons.mp hp with rfl | hp
    · exact ⟨(s1.2 a hak.symm).trans na, na1, na2, na3, na4⟩
    · rcases List.mem_cons.mp hp with rfl | hp
      · exact ⟨hc2, nk1, nk2, nk3, fun v z => by cases z⟩
      · exact I4.pin p (List.mem_append_right _ hp)
  · rw [Array.toList_push]
    exact rk.append (.cons r2 .nil)
  · rcases Nat.lt_or_ge i kvs.length with h1 | h1
    · rw [List.getElem?_append_left h1] at e'
      exact Rep.same S2 _ _ (rp i kv' e')
    · rw [List.getElem?_append_right h1] at e'
      have : i = kvs.length := by
       rcases Nat.lt_or_ge (i - kvs.length) 1 with h2 | h2
       · omega
       · rw [List.getElem?_eq_none (by simpa using h2)] at e'; cases e'
      subst this
      simp at e'
      subst e'
      rw [lk]
      exact R2
 case done =>
  rintro s' ⟨H1, kvs, kA, e, I1, S1, rk, lk, rp⟩
  rw [Nat.zero_add] at lk
  obtain ⟨nk, nk1, nk2, nk3, nk4⟩ := I1.pin (kS, seqObj "list" kA e) (List.mem_append_right _ (.tail _ (.head _)))
  obtain ⟨na, na1, na2, na3, na4⟩ := I1.pin (a, seqObj "list" #[] e1) (List.mem_append_right _ (.head _))
  refine wpAny_bind (listItems_at nk rfl ?_)
  obtain ⟨ks, rfl⟩ : ∃ ks : List Value, kA = ks.toArray := ⟨kA.toList, by simp⟩
  simp only [List.toList_toArray] at rk
  have lks : ks.length = us.length := by have := rk.length; omega
  have key : (∀ i, i < us.length → ∀ kv, Rep X.K H1 (kd i) kv → ∃ l, kv = V.ref l) → ∀ i, i < us.length → ∃ (l : Addr) (kv : V), ks.getD i Value.none = .ref l ∧ kvs[i]? = some kv ∧ RelV kv (.ref l) ∧ Rep X.K H1 (kd i) kv := fun hrf i hi => by
   obtain ⟨kv, hkv⟩ : ∃ kv, kvs[i]? = some kv := ⟨_, List.getElem?_eq_getElem (by omega)⟩
   obtain ⟨u, h1, h2⟩ := Vals.get rk hkv
   have h3 := rp i kv hkv
   obtain ⟨l, rfl⟩ := hrf i hi kv h3
   cases h2
   exact ⟨l, _, by rw [List.getD_eq_getElem?_getD, h1]; rfl, hkv, rfl, h3⟩
  have tail : ∀ (st' : SortSt) (p : Array Nat), arrOf st' = p.map (kas_item (ks.toArray.zip us.toArray)) → failedOf st' = none → KS.Ok us.length p → KS.Srt (fun i j => pyLt (kd i) (kd j)) p us.length → wpAny (model X.prog X.w) X.A (ksk_tail a false e1 (.ref kS) st') P E s' := by
   intro st' p har hf ok srt
   have hout := kat_snds lks har
   have hp := ok.size
   have s1 := Heap.SameBut.update s'.heap kS (Obj.mapSeq fun _ => (#[] : Array Value))
   have na' : (s'.heap.update kS (Obj.mapSeq fun _ => (#[] : Array Value))).get? a = some (seqObj "list" #[] e1) := (s1.2 a hak.symm).trans na
   have s2 := Heap.SameBut.update (s'.heap.update kS (Obj.mapSeq fun _ => (#[] : Array Value))) a (Obj.mapSeq fun _ => (arrOf st').map (·.2))
   obtain ⟨c2, hc2⟩ : ∃ c2, ((s'.heap.update kS (Obj.mapSeq fun _ => (#[] : Array Value))).update a (Obj.mapSeq fun _ => (arrOf st').map (·.2))).get? a = some (seqObj "list" ((arrOf st').map (·.2)) c2) :=
    ⟨_, get?_update_seq na' fun _ => (arrOf st').map (·.2)⟩
   unfold ksk_tail
   dsimp only
   refine wpAny_bind (listUpdate_at nk rfl ?_ (by rw [List.size_toArray, sizeLine_eq]; omega) (Nat.zero_le _))
   refine wpAny_bind (wpAny_letGo ?_)
   refine wpAny_bind (seqEpoch_at na' rfl ?_)
   refine wpAny_bind (listUpdate_at na' rfl ?_ (Nat.zero_le _) (by
    simp only [Bool.false_eq_true, if_false]
    rw [hout]
    show (p.toList.map fun i => us.getD i Value.none).length ≤ _
    rw [List.length_map, Array.length_toList, hp, sizeLine_eq]
    omega))
   rw [hf]
   simp only [bne_self_eq_false, Bool.false_eq_true, if_false]
   have I3 : Inv X pins σ H1 s' := I1.pins_of fun p hp => I1.pin p (List.mem_append_right _ (.tail _ (.tail _ hp)))
   have I4 : Inv X pins σ H1 { s' with heap := s'.heap.update kS (Obj.mapSeq fun _ => (#[] : Array Value)), toks := s'.toks } := I3.turned (it := kS) (fun b o hb q => (s1.2 b hb).trans q) nk1 nk2 Fk.2.2.2.1 Fk.2.2.2.2.1 Fk.2.2.2.2.2
   have I5 : Inv X pins σ H1 { s' with heap := (s'.heap.update kS (Obj.mapSeq fun _ => (#[] : Array Value))).update a (Obj.mapSeq fun _ => (arrOf st').map (·.2)), toks := s'.toks } := Inv.turned (s := { s' with heap := s'.heap.update kS (Obj.mapSeq fun _ => (#[] : Array Value)), toks := s'.toks }) (t' := s'.toks) (it := a) I4 (fun b o hb q => (s2.2 b hb).trans q) na1 na2 Fa.2.2.2.1 Fa.2.2.2.2.1 Fa.2.2.2.2.2
   refine wpAny_pure (h p _ H1 ok srt S1 na1 (I5.track7 ⟨na1, Fa.2⟩ ha0 ?_))
   refine ⟨by rw [List.length_map, Array.length_toList, hp, sizeLine_eq]; omega, p.toList.map fun i => us.getD i Value.none, c2, ?_, ?_⟩
   · have : ∀ l : List Nat, Vals (l.map fun i => vs.getD i .non) (l.map fun i => us.getD i Value.none) := fun l => by
      induction l with
      | nil => exact .nil
      | cons i l ih =>
       refine .cons ?_ ih
       show RelV (vs.getD i .non) (us.getD i Value.none)
       rcases Nat.lt_or_ge i vs.length with h1 | h1
       · obtain ⟨u, g1, g2⟩ := Vals.get rv (List.getElem?_eq_getElem h1)
         rw [List.getD_eq_getElem?_getD, List.getD_eq_getElem?_getD, g1, List.getElem?_eq_getElem h1]
         exact g2
       · rw [List.getD_eq_getElem?_getD, List.getD_eq_getElem?_getD, List.getElem?_eq_none h1, List.getElem?_eq_none (by omega)]
         rfl
     exact this _
   · rw [hout] at hc2 ⊢
     exact hc2
  unfold ksk_end
  dsimp only
  simp only [Bool.false_eq_true, if_false]
  have hsz : us.toArray.size = us.length := by simp
  by_cases h2 : us.toArray.size < 2
  · rw [if_pos h2, if_pos h2]
    refine wpAny_bind (wpAny_pure ?_)
    rw [StateT.run_pure]
    refine wpAny_bind (wpAny_pure ?_)
    have e1 := kas_range (ks.toArray.zip us.toArray)
    have e2 : (ks.toArray.zip us.toArray).size = us.length := by simp [lks]
    rw [e2] at e1
    exact tail _ (List.range us.length).toArray e1.symm rfl ⟨by simp⟩ (fun i j hij hj => absurd hj (by rw [hsz] at h2; omega))
  · rw [if_neg h2, if_neg h2]
    rw [hsz] at h2
    obtain ⟨κ, hkind, hgo⟩ : ∃ κ, (∀ Q : SortKind → Shared → Prop, Q κ s' → wpAny (model X.prog X.w) X.A (keyKind' ks.toArray) Q E s') ∧ ∀ i j, i < us.length → j < us.length → ∀ C : Bool → Shared → Prop, C (pyLt (kd i) (kd j)) s' → wpAny (model X.prog X.w) X.A (keyLt' κ (ks.getD i Value.none) (ks.getD j Value.none)) C (fun _ _ => False) s' := by
     rcases hl with z | hl | hl
     · omega
     · have key := key fun i _ kv r => by
        obtain ⟨ds, e⟩ := hl i
        rw [e, Rep] at r
        obtain ⟨l, xs, z, _⟩ := r
        exact ⟨l, z⟩
       refine ⟨oneType', fun Q q => kas_kind (T := .type "list") (by omega) (fun v hv => ?_) (by rfl) (by rfl) q, fun i j hi hj C hC => ?_⟩
       · obtain ⟨i, hi, rfl⟩ := List.getElem_of_mem hv
         obtain ⟨l, kv, g1, g2, g3, g4⟩ := key i (by omega)
         rw [List.getD_eq_getElem?_getD, List.getElem?_eq_getElem hi] at g1
         obtain ⟨ds, hds⟩ := hl i
         rw [hds, Rep] at g4
         obtain ⟨l', xs, rfl, g5, _⟩ := g4
         cases g3
         obtain ⟨its, _, pl, _⟩ := I1.list g5
         rw [show ks[i] = .ref _ from g1]
         exact zgK pl.isList
       · obtain ⟨l1, kv1, a1, a2, a3, a4⟩ := key i hi
         obtain ⟨l2, kv2, b1, b2, b3, b4⟩ := key j hj
         rw [a1, b1]
         have k1 := hok i j hi hj
         have hdi := hd i
         obtain ⟨ds, hds⟩ := hl i
         obtain ⟨es, hes⟩ := hl j
         rw [hds, hes] at k1 hC
         rw [hds] at a4 hdi
         rw [hes] at b4
         rw [Rep] at a4 b4
         obtain ⟨m1, xs, rfl, q1, q2⟩ := a4
         obtain ⟨m2, ys, rfl, q3, q4⟩ := b4
         cases a3; cases b3
         obtain ⟨its, r1, p1, _⟩ := I1.list q1
         obtain ⟨its', r2, p2, _⟩ := I1.list q3
         rw [zay] at hdi
         rw [ltOk] at k1
         rw [pyLt] at hC
         obtain ⟨n, FA⟩ := zcb I1 X.A.in1 ds es xs ys its its' q2 q4 r1 r2 (by rw [Around.in1_units]; omega) k1
         exact zgD p1.isList p2.isList (by omega) FA hC
     · have key := key fun i hi kv r => by
        obtain ⟨d, ds, e⟩ := hl i hi
        rw [e, Rep] at r
        obtain ⟨l, xs, z, _⟩ := r
        exact ⟨l, z⟩
       refine ⟨tuples' false, fun Q q => ?_, fun i j hi hj C hC => ?_⟩
       · obtain ⟨fs, f1, f2, f3⟩ := zgU (M := model X.prog X.w) (h := s'.heap) ks fun v hv => by
          obtain ⟨i, hi, rfl⟩ := List.getElem_of_mem hv
          obtain ⟨l, kv, g1, g2, g3, g4⟩ := key i (by omega)
          rw [List.getD_eq_getElem?_getD, List.getElem?_eq_getElem hi] at g1
          obtain ⟨d, ds, hds⟩ := hl i (by omega)
          rw [hds, Rep] at g4
          obtain ⟨l', xs, rfl, g5, g6⟩ := g4
          cases g3
          obtain ⟨its, rv, ⟨o, e, c, n, hd⟩, _⟩ := I1.tuple g5
          rw [Reps] at g6
          obtain ⟨x, vr, rfl, g7, _⟩ := g6
          rw [Rep] at g7
          obtain ⟨l2, xs2, rfl, g8, _⟩ := g7
          cases rv with
          | cons ra rb =>
           cases ra
           obtain ⟨its2, _, ⟨o2, e2, c2, _⟩, _⟩ := I1.tuple g8
           refine ⟨_, o, _, n, _, g1, e, c, hd, rfl, ?_⟩
           rw [← c2]
           exact (Looks.ld e2).andThen .now
         exact kat_kind (T := .type "tuple") f1 (by omega) f3 (by rfl) q
       · obtain ⟨l1, kv1, a1, a2, a3, a4⟩ := key i hi
         obtain ⟨l2, kv2, b1, b2, b3, b4⟩ := key j hj
         rw [a1, b1]
         have k1 := hok i j hi hj
         have hdi := hd i
         obtain ⟨d, ds, hds⟩ := hl i hi
         obtain ⟨e, es, hes⟩ := hl j hj
         rw [hds, hes] at k1 hC
         rw [hds] at a4 hdi
         rw [hes] at b4
         rw [Rep] at a4 b4
         obtain ⟨m1, xs, rfl, q1, q2⟩ := a4
         obtain ⟨m2, ys, rfl, q3, q4⟩ := b4
         cases a3; cases b3
         obtain ⟨its, r1, ⟨o1, e1, _, n1, d1⟩, _⟩ := I1.tuple q1
         obtain ⟨its', r2, ⟨o2, e2, _, n2, d2⟩, _⟩ := I1.tuple q3
         rw [zay] at hdi
         rw [ltOk] at k1
         rw [pyLt] at hC
         obtain ⟨n, FA⟩ := zcb I1 X.A _ _ xs ys its its' q2 q4 r1 r2 (by omega) k1
         exact kat_lt e1 d1 e2 d2 (zhG FA hC _ 0 rfl (Nat.zero_le _))
    refine wpAny_bind (hkind _ ?_)
    have zs : (ks.toArray.zip us.toArray).size = us.length := by simp [lks]
    have zg : ∀ i x, (ks.toArray.zip us.toArray)[i]? = some x → i < us.length ∧ x.1 = ks.getD i Value.none ∧ us[i]? = some x.2 := fun i x e => by
     have hi : i < (ks.toArray.zip us.toArray).size := (Array.getElem?_eq_some_iff.mp e).1
     rw [zs] at hi
     have e2 := (Array.getElem?_eq_some_iff.mp e).2
     rw [Array.getElem_zip] at e2
     refine ⟨hi, ?_, ?_⟩
     · rw [← e2]; simp [lks, hi]
     · rw [← e2]; simp [hi]
    refine wpAny_bind (wpAny_mono (zir (κ := κ) (its := ks.toArray.zip us.toArray) (lt := fun i j => pyLt (kd i) (kd j)) (E := E) (Q := fun _ st' => ∃ p : Array Nat, arrOf st' = p.map (kas_item (ks.toArray.zip us.toArray)) ∧ failedOf st' = none ∧ KS.Ok us.length p ∧ KS.Srt (fun i j => pyLt (kd i) (kd j)) p us.length) O (fun i j i' j' e1 e2 h1 h2 h3 h4 => ?_) (fun i j x y e1 e2 C hC => ?_) fun st' p hf ok srt har => ?_) ?_ fun _ _ e => e)
    · rw [zs] at h1 h2 h3 h4
      have c1 : kd i = kd i' := hcons i i' h1 h3 (by
       obtain ⟨x, hx⟩ : ∃ x, (ks.toArray.zip us.toArray)[i]? = some x := ⟨_, Array.getElem?_eq_getElem (by rw [zs]; exact h1)⟩
       rw [(zg i x hx).2.2, (zg i' x (by rw [← e1]; exact hx)).2.2])
      have c2 : kd j = kd j' := hcons j j' h2 h4 (by
       obtain ⟨x, hx⟩ : ∃ x, (ks.toArray.zip us.toArray)[j]? = some x := ⟨_, Array.getElem?_eq_getElem (by rw [zs]; exact h2)⟩
       rw [(zg j x hx).2.2, (zg j' x (by rw [← e2]; exact hx)).2.2])
      show pyLt (kd i) (kd j) = pyLt (kd i') (kd j')
      rw [c1, c2]
    · obtain ⟨g1, g2, _⟩ := zg i x e1
      obtain ⟨g3, g4, _⟩ := zg j y e2
      rw [g2, g4]
      exact hgo i j g1 g3 C hC
    · rw [zs] at ok srt
      refine ⟨p, ?_, hf, ok, srt⟩
      apply Array.toList_inj.mp
      rw [har, Array.toList_map]
      refine List.map_congr_left fun n _ => ?_
      unfold kas_item
      first | rfl | simp [Array.getD_eq_getD_getElem?]
    · rintro ⟨⟨⟩, st'⟩ s2 ⟨rfl, p, har, hf, ok, srt⟩
      exact tail st' p har hf ok srt
end
end L2
namespace L2
open PySem PySem.Spec PyProof.Rows PySem.W
section
variable {X : Cx} {pins : List (Addr × Obj)} {σ : St} {H : Hp} {s : Shared}
def zcS (K : PySem.W.Frag) (sp : Sp) : List V → Hp → VK → Prop := fun xs H Q => ∃ (l : Addr) (vs : List V) (kd : Nat → PD), xs = [.ref l] ∧ SqL K H l vs ∧ vs.length ≤ 1000 ∧ (∀ v ∈ vs, ∃ a, v = .ref a) ∧ (∀ i j : Nat, i < vs.length → j < vs.length → vs[i]? = vs[j]? → kd i = kd j) ∧
 (∀ i v, vs[i]? = some v → ∀ H1, Same H H1 → ∀ Q1 : VK, (∀ kv H2, Same H1 H2 → Rep K H2 (kd i) kv → Q1 kv H2) → sp [v] H1 Q1 E0) ∧
 zf6 vs.length kd ∧ (∀ i, zay (kd i) ≤ 20) ∧ (∀ i j, i < vs.length → j < vs.length → ltOk (kd i) (kd j) = true) ∧ KS.Ord (fun i j => pyLt (kd i) (kd j)) ∧
 ∀ (r : Addr) (p : Array Nat) (H' : Hp), KS.Ok vs.length p → KS.Srt (fun i j => pyLt (kd i) (kd j)) p vs.length → Same H H' → H r = none → H' r = some (.lst (p.toList.map fun i => vs.getD i .non)) → Q (.ref r) H'
def zjr (K : PySem.W.Frag) (sp : Sp) (t : TA) : TE := fun σ H Q => t σ H fun vs H1 => zcS K sp vs H1 Q
theorem zex {k : Nat} {f : Addr} {fd : FuncData} {x : Str} {sp : Sp} (F : FnOk X.prog X.w X.K X.mg X.base CX0 k f fd [x] sp) (hb : Binds X.K fd [x] []) (hr : Room (k + 2) X.A) : zjm X (.builtin "sorted") [Str.ofString "key"] (fun xs zs H Q => zs = [.ref f] ∧ zcS X.K sp xs H Q) := by
 intro pins s σ H xs zs us ws Q I r1 r2 h
 obtain ⟨rfl, l, vs, kd, rfl, hq, h64, hrf, hco, turn, hl, hd, hok, O, q⟩ := h
 obtain ⟨u, rfl, ru⟩ := zdW r1
 obtain ⟨z, rfl, rz⟩ := zdW r2
 cases ru; cases rz
 obtain ⟨its, rv, pl, hz⟩ := I.list hq
 have lv := rv.length
 show wpAny _ _ (call (.builtin "sorted") [.ref l] [(Str.ofString "key", .ref f)]) _ _ _
 refine call_function_entry_kw kind_sorted plain_sorted entry_sorted (ksk_s1 _ _) ?_
 unfold Builtin.«sorted»
 refine wpAny_bind (m := checkCount "sorted" 1 1 _) (wpAny_pure ?_)
 refine wpAny_bind (collect_list pl.isList ?_ (by omega))
 refine wpAny_bind (wpAny_newList ?_ (by omega))
 have hsz : ((s.heap.push (seqObj "list" #[] 0)).update s.heap.objs.size (Obj.mapSeq (· ++ its.toArray))).objs.size = s.heap.objs.size + 1 := by
  rw [Heap.size_update, size_push']
 have hoL : (((s.heap.push (seqObj "list" #[] 0)).update s.heap.objs.size (Obj.mapSeq (· ++ its.toArray))).push (seqObj "list" its.toArray 0)).get? (s.heap.objs.size + 1) = some (seqObj "list" its.toArray 0) := by
  rw [← hsz]; exact Heap.get?_push_size _ rfl
 have keep : ∀ b o, s.heap.get? b = some o → (((s.heap.push (seqObj "list" #[] 0)).update s.heap.objs.size (Obj.mapSeq (· ++ its.toArray))).push (seqObj "list" its.toArray 0)).get? b = some o := fun b o q => by
  have hlt : b < s.heap.objs.size := Heap.lt_size q
  rw [Heap.get?_push_ne _ _ _ (by rw [hsz]; exact Nat.ne_of_lt (Nat.lt_succ_of_lt hlt)), Heap.get?_update_ne _ _ _ _ (Nat.ne_of_lt hlt), Heap.get?_push_ne _ _ _ (Nat.ne_of_lt hlt)]
  exact q
 show wpAny _ _ _ _ _ { s with heap := ((s.heap.push (seqObj "list" #[] 0)).update s.heap.objs.size (Obj.mapSeq (· ++ its.toArray))).push (seqObj "list" its.toArray 0) }
 rw [hsz]
 generalize hg : ((s.heap.push (seqObj "list" #[] 0)).update s.heap.objs.size (Obj.mapSeq (· ++ its.toArray))).push (seqObj "list" its.toArray 0) = g at hoL keep ⊢
 refine wpAny_bind (wpAny_holding (wpAny_call_entry_kw slot_list_sort ⟨_, hoL, rfl⟩ entry_list_sort ?body (ksk_l1 _ _)))
 case body =>
  show wpAny (model X.prog X.w) X.A.in1.in1 (Builtin.«list.sort» ⟨[.ref (s.heap.objs.size + 1)], [(Str.ofString "key", .ref f)]⟩) _ _ _
  rw [ksk_t1]
  unfold ksk_tree
  have ha : s.heap.objs.size + 1 < g.objs.size := Heap.lt_size hoL
  refine wpAny_bind (listItems_at hoL rfl ?_)
  refine wpAny_bind (listUpdate_at hoL rfl ?_ (by rw [List.size_toArray, sizeLine_eq]; omega) (Nat.zero_le _))
  obtain ⟨e1, ho1⟩ : ∃ e1, (g.update (s.heap.objs.size + 1) (Obj.mapSeq fun _ => #[])).get? (s.heap.objs.size + 1) = some (seqObj "list" #[] e1) := ⟨_, get?_update_seq hoL (fun _ => #[])⟩
  refine wpAny_bind (seqEpoch_at ho1 rfl ?_)
  refine wpAny_bind (wpAny_newTuple ?_ (by show its.length ≤ _; rw [sizeLine_eq]; omega))
  refine wpAny_bind (wpAny_newList ?_ (Nat.zero_le _))
  refine wpAny_holding ?_
  have ho6 : (((g.update (s.heap.objs.size + 1) (Obj.mapSeq fun _ => #[])).push (seqObj "tuple" its.toArray 0)).push (seqObj "list" #[] 0)).get? (s.heap.objs.size + 1) = some (seqObj "list" #[] e1) :=
   Heap.get?_push_of_some _ (Heap.get?_push_of_some _ ho1)
  have hkS : ((g.update (s.heap.objs.size + 1) (Obj.mapSeq fun _ => #[])).push (seqObj "tuple" its.toArray 0)).objs.size = g.objs.size + 1 := by rw [size_push', Heap.size_update]
  have hok6 : (((g.update (s.heap.objs.size + 1) (Obj.mapSeq fun _ => #[])).push (seqObj "tuple" its.toArray 0)).push (seqObj "list" #[] 0)).get? (g.objs.size + 1) = some (seqObj "list" #[] 0) := by
   rw [← hkS]; exact Heap.get?_push_size _ rfl
  have kept : ∀ b o, s.heap.get? b = some o → (((g.update (s.heap.objs.size + 1) (Obj.mapSeq fun _ => #[])).push (seqObj "tuple" its.toArray 0)).push (seqObj "list" #[] 0)).get? b = some o := fun b o q => by
   refine Heap.get?_push_of_some _ (Heap.get?_push_of_some _ ?_)
   rw [Heap.get?_update_ne _ _ _ _ (Nat.ne_of_lt (Nat.lt_succ_of_lt (Heap.lt_size q)))]
   exact keep b o q
  show wpAny _ _ (ksk_rest _ _ _ _ _ (.ref ((g.update (s.heap.objs.size + 1) (Obj.mapSeq fun _ => #[])).push (seqObj "tuple" its.toArray 0)).objs.size)) _ _ { s with heap := ((g.update (s.heap.objs.size + 1) (Obj.mapSeq fun _ => #[])).push (seqObj "tuple" its.toArray 0)).push (seqObj "list" #[] 0) }
  rw [hkS]
  generalize ((g.update (s.heap.objs.size + 1) (Obj.mapSeq fun _ => #[])).push (seqObj "tuple" its.toArray 0)).push (seqObj "list" #[] 0) = g6 at ho6 hok6 kept ⊢
  have Fa : FpOk X.in2 pins H (s.heap.objs.size + 1) := I.in2.fpOk (Nat.le_succ _) (I.hok.fresh (Nat.le_succ _))
  have hle : s.heap.objs.size ≤ g.objs.size + 1 := by omega
  have hne : g.objs.size + 1 ≠ s.heap.objs.size + 1 := by omega
  have h64' : its.length ≤ 1000 := by omega
  have hcons : ∀ i j : Nat, i < its.length → j < its.length → its[i]? = its[j]? → kd i = kd j := fun i j hi hj e => by
   refine hco i j (by omega) (by omega) ?_
   obtain ⟨v1, hv1⟩ : ∃ v, vs[i]? = some v := ⟨_, List.getElem?_eq_getElem (by omega)⟩
   obtain ⟨v2, hv2⟩ : ∃ v, vs[j]? = some v := ⟨_, List.getElem?_eq_getElem (by omega)⟩
   obtain ⟨u1, g1, g2⟩ := Vals.get rv hv1
   obtain ⟨u2, g3, g4⟩ := Vals.get rv hv2
   obtain ⟨a1, rfl⟩ := hrf v1 (List.mem_of_getElem? hv1)
   obtain ⟨a2, rfl⟩ := hrf v2 (List.mem_of_getElem? hv2)
   rw [g1, g3] at e
   cases g2; cases g4; cases e
   rw [hv1, hv2]
  have Fk : FpOk X.in2 pins H (g.objs.size + 1) := I.in2.fpOk hle (I.hok.fresh hle)
  have I6 : Inv X.in2 pins σ H { s with heap := g6 } := Inv.kept (t' := s.toks) I.in2 kept
  refine zhJ (X := X.in2) (pins := pins) (σ := σ) (H := H) (vs := vs) (kd := kd) (I6.pins_of fun p hp => ?_) Fa Fk (Heap.get?_none_of_le (Nat.le_succ_of_le I.sz)) hne rv h64' hcons (fun i v u hv hu pins' s' H' I' S' => ?_) (by rw [← lv]; exact hl) (fun i => ?_) (by rw [← lv]; exact hok) O fun p s' H' ok srt S' hn I' => ?_
  · rcases List.mem_cons.mp hp with rfl | hp
    · exact ⟨ho6, Fa.1, Fa.2.1, Fa.2.2.1, fun v z => by cases z⟩
    · rcases List.mem_cons.mp hp with rfl | hp
      · exact ⟨hok6, Fk.1, Fk.2.1, Fk.2.2.1, fun v z => by cases z⟩
      · exact I6.pin p (List.mem_append_right _ hp)
  · obtain ⟨u', h1, h2⟩ := Vals.get rv hv
    rw [hu] at h1
    cases h1
    exact zi6 (X := X.in2) F (Room.in1 (Room.in1 hr)) hb .nil zku I' (.cons h2 .nil) (turn i v hv H' S' _ fun kv H2 s2 r2 => ⟨s2, r2⟩)
  · have := hd i
    have := hr.un
    show X.A.units + 1 + 1 + 2 + zay (kd i) < cLine
    omega
  · refine ⟨_, rfl, ?_⟩
    refine wpAny_pure ⟨_, rfl, ?_⟩
    rw [← lv] at ok srt
    exact ⟨.ref _, _, I'.out2 I.ok, rfl, q _ p _ ok srt (za5 S' Fa.1) Fa.1 zad⟩
theorem zeM {k : Nat} {x px : Str} {sp : Sp} {e : Expr} {t : TA} {p1 p2 p3 pos : Pos} (G : FnH X.prog X.w X.K X.mg X.base k x [px] sp) (hr : Room (k + 2) X.A) (hg : Gl X "sorted") (hm : X.mg "sorted" = none) (hx : Gl X x) (ha : PA X [e] t) (hks : (x == ("__debug__" : Str)) = false := by decide)
 (he : backTo pos (starEach [e] X.env) = (false, eval e X.env) :: backTo pos (starEach [] X.env) := by rfl) (hpl : (backTo pos (starEach [e] X.env)).any (·.1) = false := by rfl) :
 PE X (.Call (.Name "sorted" p1) [e] [⟨some "key", .Name x p2, p3⟩] pos) (zjr X.K sp t) := by
 obtain ⟨f, fd, h1, h2, h3, h4⟩ := G
 have := zhr (p := p1) (pos := pos) (zex h1 h2 hr) hg hm ze5 ha (zjG (nm := some "key") (kpos := p3) (zhq (v := .ref f) (pos := p2) hx h4 rfl hks) zko) rfl (by decide) (by decide) he hpl rfl rfl
 intro pins s σ H Q I h
 refine this pins s σ H Q I ?_
 have e0 : (fun (vs : List V) (H1 : Hp) => zcS X.K sp vs H1 Q) = (fun vs H1 => [V.ref f] = [V.ref f] ∧ zcS X.K sp vs H1 Q) := by
  funext vs H1
  simp
 have h' : t σ H (fun vs H1 => zcS X.K sp vs H1 Q) := h
 rw [e0] at h'
 exact h'
end
end L2
namespace L2
open PySem PySem.Spec PyProof.Rows
theorem zi0 (o : Option Int) : zay (dE o) = 0 := by cases o <;> rfl
section
variable {X : Cx} {pins : List (Addr × Obj)} {σ : St} {H : Hp} {s : Shared} {a : Addr} {o : Obj} {kvs : List (Key × V)}
end
section
variable {X : Cx} {tg : Expr}
end
section
variable {p a : Addr} {g : TG} {tc : TT} {te : TE} {σ : St} {H : Hp} {Q : VK} {o : Obj} {kvs : List (Key × V)} {fs : List Str}
end
section
variable {X : Cx}
end
def dWP (p : WP) : PD := .tup [.str p.1, dE p.2.1, dE p.2.2]
def dW (w : List WP) : PD := .tup (w.map dWP)
theorem zi7 {K : PySem.W.Frag} {H : Hp} : ∀ ps : List (Addr × WP), (∀ p ∈ ps, H p.1 = some (.tup [.str p.2.1, eV p.2.2.1, eV p.2.2.2])) → Reps K H ((ps.map (·.2)).map dWP) (ps.map fun p => V.ref p.1)
 | [], _ => by show Reps K H [] []; rw [Reps]
 | p :: ps, h => by
  show Reps K H (dWP p.2 :: _) (V.ref p.1 :: _)
  rw [Reps]
  refine ⟨_, _, rfl, ?_, zi7 ps fun q hq => h q (List.mem_cons_of_mem _ hq)⟩
  unfold dWP
  rw [Rep]
  refine ⟨p.1, _, rfl, SqT.of (h p List.mem_cons_self), ?_⟩
  rw [Reps]
  refine ⟨_, _, rfl, by rw [Rep], ?_⟩
  rw [Reps]
  refine ⟨_, _, rfl, zi8 _, ?_⟩
  rw [Reps]
  exact ⟨_, _, rfl, zi8 _, by rw [Reps]⟩
theorem zgx {K : PySem.W.Frag} {H : Hp} {a : Addr} {w : List WP} (h : WishAt H a w) : Rep K H (dW w) (.ref a) := by
 obtain ⟨ps, rfl, h1, h2⟩ := h
 unfold dW
 rw [Rep]
 exact ⟨a, _, rfl, SqT.of h1, zi7 ps h2⟩
theorem zi1 (p : WP) : zay (dWP p) = 1 := by
 unfold dWP
 simp [zay, zaz, zi0]
theorem zgp : ∀ w : List WP, zaz (w.map dWP) ≤ 1
 | [] => by show zaz [] ≤ 1; rw [zaz]; omega
 | p :: w => by
  rw [List.map_cons, zaz, zi1]
  have := zgp w
  omega
theorem zfY (w : List WP) : zay (dW w) ≤ 2 := by
 unfold dW
 rw [zay]
 have := zgp w
 omega
theorem zhl (a b : Option Int) : pyEq (dE a) (dE b) = decide (a = b) := by
 cases a <;> cases b <;> simp only [dE, pyEq] <;> rw [Bool.eq_iff_iff] <;> simp
theorem zjF (p q : WP) : pyEq (dWP p) (dWP q) = decide (p = q) := by
 obtain ⟨f, a, b⟩ := p
 obtain ⟨g, c, d⟩ := q
 unfold dWP
 rw [pyEq, zaQ, zaQ, zaQ, zaQ, zhl, zhl, pyEq, Bool.eq_iff_iff]
 simp
theorem zhk : ∀ w w' : List WP, zaQ (w.map dWP) (w'.map dWP) = decide (w = w')
 | [], [] => by rw [List.map_nil, zaQ]; rfl
 | [], y :: r => by rw [List.map_nil, List.map_cons, zaQ]; rfl; all_goals simp
 | x :: r, [] => by rw [List.map_nil, List.map_cons, zaQ]; rfl; all_goals simp
 | x :: r, y :: r' => by
  rw [List.map_cons, List.map_cons, zaQ, zjF, zhk r r', Bool.eq_iff_iff]
  simp
theorem zhm (w w' : List WP) : pyEq (dW w) (dW w') = decide (w = w') := by
 unfold dW
 rw [pyEq, zhk]
structure STo {α : Type} (l : α → α → Bool) : Prop where
 ir : ∀ a, l a a = false
 tr : ∀ a b c, l a b = true → l b c = true → l a c = true
 tot : ∀ a b, a ≠ b → l a b = true ∨ l b a = true
theorem STo.as {α : Type} {l : α → α → Bool} (h : STo l) {a b : α} (q : l a b = true) : l b a = false := by
 cases e : l b a with
 | false => rfl
 | true => have := h.tr a b a q e; rw [h.ir] at this; cases this
theorem STo.ntr {α : Type} [DecidableEq α] {l : α → α → Bool} (h : STo l) {a b c : α} (h1 : l b a = false) (h2 : l c b = false) : l c a = false := by
 cases e : l c a with
 | false => rfl
 | true =>
  by_cases hab : a = b
  · subst hab; rw [e] at h2; cases h2
  · rcases h.tot a b hab with z | z
    · have := h.tr c a b e z; rw [h2] at this; cases this
    · rw [h1] at z; cases z
theorem STo.ord {α : Type} [DecidableEq α] {l : α → α → Bool} (h : STo l) (k : Nat → α) : KS.Ord fun i j => l (k i) (k j) :=
 ⟨fun a b q => h.as q, fun a b c h1 h2 => h.ntr h1 h2⟩
def ltI (a b : Int) : Bool := decide (a < b)
theorem sto_int : STo ltI := ⟨fun a => by simp [ltI], fun a b c h1 h2 => by simp [ltI] at *; omega, fun a b h => by simp [ltI]; omega⟩
def ltS (a b : Str) : Bool := decide (a.cps.toList < b.cps.toList)
theorem sto_str : STo ltS := ⟨fun a => decide_eq_false (List.lt_irrefl _), fun a b c h1 h2 => decide_eq_true (List.lt_trans (of_decide_eq_true h1) (of_decide_eq_true h2)), fun a b h => by
 by_cases q : ltF a b
 · exact .inl (decide_eq_true q)
 · exact .inr (decide_eq_true (zhD q h))⟩
def lexP {α β : Type} [DecidableEq α] (l : α → α → Bool) (m : β → β → Bool) (x y : α × β) : Bool := if x.1 = y.1 then m x.2 y.2 else l x.1 y.1
theorem STo.pair {α β : Type} [DecidableEq α] {l : α → α → Bool} {m : β → β → Bool} (h : STo l) (k : STo m) : STo (lexP l m) where
 ir := fun a => by simp [lexP, k.ir]
 tr := fun ⟨a, a'⟩ ⟨b, b'⟩ ⟨c, c'⟩ h1 h2 => by
  simp only [lexP] at *
  by_cases e1 : a = b
  · subst e1
    rw [if_pos rfl] at h1
    by_cases e2 : a = c
    · subst e2
      rw [if_pos rfl] at h2 ⊢
      exact k.tr _ _ _ h1 h2
    · rw [if_neg e2] at h2 ⊢
      exact h2
  · rw [if_neg e1] at h1
    by_cases e2 : b = c
    · subst e2
      rw [if_neg e1]
      exact h1
    · rw [if_neg e2] at h2
      have := h.tr _ _ _ h1 h2
      by_cases e3 : a = c
      · subst e3; rw [h.ir] at this; cases this
      · rw [if_neg e3]; exact this
 tot := fun ⟨a, a'⟩ ⟨b, b'⟩ hn => by
  simp only [lexP]
  by_cases e : a = b
  · subst e
    rw [if_pos rfl, if_pos rfl]
    exact k.tot _ _ fun z => hn (by rw [z])
  · rw [if_neg e, if_neg (Ne.symm e)]
    exact h.tot _ _ e
def lexL {α : Type} [DecidableEq α] (l : α → α → Bool) : List α → List α → Bool
 | [], [] => false
 | [], _ :: _ => true
 | _ :: _, [] => false
 | x :: xs, y :: ys => if x = y then lexL l xs ys else l x y
theorem STo.list {α : Type} [DecidableEq α] {l : α → α → Bool} (h : STo l) : STo (lexL l) where
 ir := fun a => by
  induction a with
  | nil => rfl
  | cons x xs ih => simp [lexL, ih]
 tr := fun a => by
  induction a with
  | nil =>
   intro b c h1 h2
   cases b with
   | nil => simp [lexL] at h1
   | cons y ys =>
    cases c with
    | nil => simp [lexL] at h2
    | cons z zs => rfl
  | cons x xs ih =>
   intro b c h1 h2
   cases b with
   | nil => simp [lexL] at h1
   | cons y ys =>
    cases c with
    | nil => simp [lexL] at h2
    | cons z zs =>
     simp only [lexL] at *
     by_cases e1 : x = y
     · subst e1
       rw [if_pos rfl] at h1
       by_cases e2 : x = z
       · subst e2
         rw [if_pos rfl] at h2 ⊢
         exact ih _ _ h1 h2
       · rw [if_neg e2] at h2 ⊢
         exact h2
     · rw [if_neg e1] at h1
       by_cases e2 : y = z
       · subst e2
         rw [if_neg e1]
         exact h1
       · rw [if_neg e2] at h2
         have := h.tr _ _ _ h1 h2
         by_cases e3 : x = z
         · subst e3; rw [h.ir] at this; cases this
         · rw [if_neg e3]; exact this
 tot := fun a => by
  induction a with
  | nil =>
   intro b hn
   cases b with
   | nil => exact absurd rfl hn
   | cons y ys => exact .inl rfl
  | cons x xs ih =>
   intro b hn
   cases b with
   | nil => exact .inr rfl
   | cons y ys =>
    simp only [lexL]
    by_cases e : x = y
    · subst e
      rw [if_pos rfl, if_pos rfl]
      exact ih _ fun z => hn (by rw [z])
    · rw [if_neg e, if_neg (Ne.symm e)]
      exact h.tot _ _ e
def lpO : Option Int → Int × Int
 | none => (0, 0)
 | some l => (1, l)
def hpO : Option Int → Int × Int
 | none => (1, 0)
 | some h => (0, h)
def d2 (p : Int × Int) : PD := .tup [.int p.1, .int p.2]
def rkP (p : WP) : PD := .tup [.str p.1, d2 (lpO p.2.1), d2 (hpO p.2.2)]
def rkD (w : List WP) : PD := .lst (w.map rkP)
abbrev RKy := Str × (Int × Int) × (Int × Int)
def ky (p : WP) : RKy := (p.1, lpO p.2.1, hpO p.2.2)
def lt2 : Int × Int → Int × Int → Bool := lexP ltI ltI
def ltKy : RKy → RKy → Bool := lexP ltS (lexP lt2 lt2)
theorem sto_ky : STo (lexL ltKy) := (sto_str.pair ((sto_int.pair sto_int).pair (sto_int.pair sto_int))).list
theorem zeb (p q : Int × Int) : pyEq (d2 p) (d2 q) = decide (p = q) := by
 obtain ⟨a, b⟩ := p
 obtain ⟨c, d⟩ := q
 unfold d2
 rw [pyEq, zaQ, zaQ, zaQ, pyEq, pyEq, Bool.eq_iff_iff]
 simp
theorem zhj (p q : Int × Int) : pyLt (d2 p) (d2 q) = lt2 p q := by
 obtain ⟨a, b⟩ := p
 obtain ⟨c, d⟩ := q
 unfold d2 lt2 lexP ltI
 rw [pyLt, zaZ, pyEq, zaZ, pyEq, zaZ, pyLt, pyLt]
 by_cases h : a = c
 · subst h
   simp
   intro z; omega
 · simp [h]
theorem zhB (p q : Int × Int) : ltOk (d2 p) (d2 q) = true := by
 obtain ⟨a, b⟩ := p
 obtain ⟨c, d⟩ := q
 unfold d2
 rw [ltOk, zbl, zbl, zbl, ltOk, ltOk]
 all_goals simp
theorem ziz (p q : WP) : pyEq (rkP p) (rkP q) = decide (ky p = ky q) := by
 unfold rkP ky
 rw [pyEq, zaQ, zaQ, zaQ, zaQ, zeb, zeb, pyEq, Bool.eq_iff_iff]
 simp
theorem zix (p q : WP) (hn : ky p ≠ ky q) : pyLt (rkP p) (rkP q) = ltKy (ky p) (ky q) := by
 have hn' := hn
 unfold rkP ltKy lexP
 unfold ky at *
 rw [pyLt, zaZ, zaZ, zaZ, zaZ, zeb, zeb, zhj, zhj, pyEq, pyLt]
 by_cases h : p.1 = q.1
 · simp only [h, beq_self_eq_true, if_true]
   by_cases h2 : lpO p.2.1 = lpO q.2.1
   · simp only [h2, decide_true, if_true]
     by_cases h3 : hpO p.2.2 = hpO q.2.2
     · exact absurd (by rw [h, h2, h3]) hn'
     · simp [h3]
   · simp [h2]
 · simp [h, ltS]
theorem ziL (p q : WP) : ltOk (rkP p) (rkP q) = true := by
 unfold rkP
 rw [ltOk, zbl, zbl, zbl, zbl, zhB, zhB, ltOk]
 all_goals simp
theorem zgl : ∀ w w' : List WP, zbl (w.map rkP) (w'.map rkP) = true
 | [], w' => by rw [List.map_nil, zbl]; all_goals simp
 | x :: r, [] => by rw [List.map_nil, zbl]; all_goals simp
 | x :: r, y :: r' => by
  rw [List.map_cons, List.map_cons, zbl, ziL, zgl r r']
  simp
theorem zjP (w w' : List WP) : ltOk (rkD w) (rkD w') = true := by
 unfold rkD
 rw [ltOk, zgl]
theorem zge : ∀ w w' : List WP, zaZ (w.map rkP) (w'.map rkP) = lexL ltKy (w.map ky) (w'.map ky)
 | [], [] => by rw [List.map_nil, zaZ]; rfl
 | [], y :: r => by rw [List.map_nil, List.map_cons, zaZ]; rfl
 | x :: r, [] => by rw [List.map_nil, List.map_cons, zaZ]; rfl
 | x :: r, y :: r' => by
  rw [List.map_cons, List.map_cons, zaZ, ziz, zge r r', List.map_cons, List.map_cons, lexL]
  by_cases h : ky x = ky y
  · rw [if_pos (decide_eq_true h), if_pos h]
  · rw [if_neg (by simpa using h), if_neg h, zix x y h]
theorem zjD (w w' : List WP) : pyLt (rkD w) (rkD w') = lexL ltKy (w.map ky) (w'.map ky) := by
 unfold rkD
 rw [pyLt, zge]
theorem zhY (p : WP) : zay (rkP p) = 2 := by
 unfold rkP d2
 simp [zay, zaz]
theorem ze1 : ∀ w : List WP, zaz (w.map rkP) ≤ 2
 | [] => by show zaz [] ≤ 2; rw [zaz]; omega
 | p :: w => by
  rw [List.map_cons, zaz, zhY]
  have := ze1 w
  omega
theorem ziX (w : List WP) : zay (rkD w) ≤ 3 := by
 unfold rkD
 rw [zay]
 have := ze1 w
 omega
def zg1 : Sp := fun vs H Q _ => ∃ o : Option Int, vs = [eV o] ∧ ∀ t H', Same H H' → H' t = some (.tup [.int (lpO o).1, .int (lpO o).2]) → Q (.ref t) H'
def zfj : Sp := fun vs H Q _ => ∃ o : Option Int, vs = [eV o] ∧ ∀ t H', Same H H' → H' t = some (.tup [.int (hpO o).1, .int (hpO o).2]) → Q (.ref t) H'
def zg0 (K : PySem.W.Frag) : Sp := fun vs H Q _ => ∃ (a : Addr) (w : List WP), vs = [.ref a] ∧ WishAt H a w ∧ WOk w ∧ ∀ v H', Same H H' → Rep K H' (rkD w) v → Q v H'
def RkAt (H : Hp) (q : Addr × Addr × Addr × WP) : Prop := H q.1 = some (.tup [.str q.2.2.2.1, .ref q.2.1, .ref q.2.2.1]) ∧ H q.2.1 = some (.tup [.int (lpO q.2.2.2.2.1).1, .int (lpO q.2.2.2.2.1).2]) ∧ H q.2.2.1 = some (.tup [.int (hpO q.2.2.2.2.2).1, .int (hpO q.2.2.2.2.2).2])
theorem RkAt.keep {H H' : Hp} {q : Addr × Addr × Addr × WP} (h : RkAt H q) (s : Tups H H') : RkAt H' q := ⟨s _ _ h.1, s _ _ h.2.1, s _ _ h.2.2⟩
theorem zi9 {K : PySem.W.Frag} {H : Hp} {t : Addr} {p : Int × Int} (h : H t = some (.tup [.int p.1, .int p.2])) : Rep K H (d2 p) (.ref t) := by
 unfold d2
 rw [Rep]
 refine ⟨t, _, rfl, SqT.of h, ?_⟩
 rw [Reps]
 refine ⟨_, _, rfl, by rw [Rep], ?_⟩
 rw [Reps]
 exact ⟨_, _, rfl, by rw [Rep], by rw [Reps]⟩
theorem zhd {K : PySem.W.Frag} {H : Hp} : ∀ qs : List (Addr × Addr × Addr × WP), (∀ q ∈ qs, RkAt H q) → Reps K H ((qs.map (·.2.2.2)).map rkP) (qs.map fun q => V.ref q.1)
 | [], _ => by show Reps K H [] []; rw [Reps]
 | q :: qs, h => by
  show Reps K H (rkP q.2.2.2 :: _) (V.ref q.1 :: _)
  rw [Reps]
  refine ⟨_, _, rfl, ?_, zhd qs fun r hr => h r (List.mem_cons_of_mem _ hr)⟩
  obtain ⟨h1, h2, h3⟩ := h q List.mem_cons_self
  unfold rkP
  rw [Rep]
  refine ⟨q.1, _, rfl, SqT.of h1, ?_⟩
  rw [Reps]
  refine ⟨_, _, rfl, by rw [Rep], ?_⟩
  rw [Reps]
  refine ⟨_, _, rfl, zi9 h2, ?_⟩
  rw [Reps]
  exact ⟨_, _, rfl, zi9 h3, by rw [Reps]⟩
theorem zkk {K : PySem.W.Frag} {H : Hp} {r : Addr} {qs : List (Addr × Addr × Addr × WP)} (e : H r = some (.lst (qs.map fun q => V.ref q.1))) (h : ∀ q ∈ qs, RkAt H q) : Rep K H (rkD (qs.map (·.2.2.2))) (.ref r) := by
 unfold rkD
 rw [Rep]
 exact ⟨r, _, rfl, SqL.of e, zhd qs h⟩
end L2
namespace L2
open PySem PySem.Spec PyProof.Rows PySem.W
section
variable {X : Cx}
def zla : R2 := fun x y H Q => ∃ a b xs ys, x = .ref a ∧ y = .ref b ∧ H a = some (.tup xs) ∧ H b = some (.tup ys) ∧ xs.length + ys.length ≤ sizeLine ∧ ∀ p H', Same H H' → H' p = some (.tup (xs ++ ys)) → Q (.ref p) H'
theorem zjL : OpR X (binaryOp .Add) zla := by
 intro pins s σ H x y v u Q I rx ry h
 obtain ⟨a, b, xs, ys, rfl, rfl, ha, hb, hz, q⟩ := h
 cases rx
 cases ry
 obtain ⟨its, r1, p1, _⟩ := I.tuple (SqT.of ha)
 obtain ⟨its2, r2, p2, _⟩ := I.tuple (SqT.of hb)
 by_cases hx : xs = []
 · subst hx
   cases r1
   obtain ⟨⟨cls, dd, data, sl⟩, ho, hc, n, hd⟩ := id p1
   obtain ⟨⟨cls2, dd2, data2, sl2⟩, ho2, hc2, n2, hd2⟩ := id p2
   simp only at hc hd hc2 hd2
   subst hc hd hc2 hd2
   exact concat_meets ⟨_, ho, rfl⟩ ⟨_, ho2, rfl⟩ noFill_tuple_add seq_tuple_add PySem.F.slot_tuple_add PySem.F.entry_tuple_add (PySem.F.args_tuple_add_2 _ _)
    (tuple_addW0 a b _ _ n n2 dd dd2 sl sl2 rfl) ⟨ho, ho2, ⟨.ref b, H, I, rfl, q b H (Same.refl _) hb⟩⟩
 · refine HT.cat_tup p1 p2 (fun z => hx (r1.nil_iff.mp z)) (fun z => ⟨.ref a, H, I, rfl, q a H (Same.refl _) (by rw [r2.nil_iff.mp z, List.append_nil]; exact ha)⟩) (fun z => ?_) (by rw [← r1.length, ← r2.length]; exact hz)
   have hn := I.hok.fresh (Nat.le_refl _)
   refine ⟨.ref s.heap.objs.size, _, I.laid (t' := s.toks) (o := .tup (xs ++ ys)) (fun b ob q => Heap.get?_push_of_some _ q) (Nat.le_refl _) ?_, rfl, q _ _ (zaf hn _) zad⟩
   exact ⟨by rw [List.length_append]; exact hz, _, r1.append r2, IsTupP.new _ _⟩
def rSlU : V → Option Int → Option Int → Hp → VK → Prop := fun x lo hi H Q => ∃ a xs, x = .ref a ∧ H a = some (.tup xs) ∧ ∀ p H', Same H H' → H' p = some (.tup (cutV xs lo hi)) → Q (.ref p) H'
theorem zgP {xs : List V} {lo hi : Option Int} (h : HT.sIx xs.length 0 lo = 0 ∧ HT.sIx xs.length xs.length hi = xs.length) : cutV xs lo hi = xs := by
 unfold cutV
 rw [h.1, h.2, List.drop_zero, Nat.sub_zero]
 exact List.take_of_length_le (Nat.le_refl _)
theorem zg9 : SlR X rSlU := by
 intro pins s σ H x v vl vu lo hi sl Q I rx hs pl pu h
 obtain ⟨a, xs, rfl, ha, q⟩ := h
 exact zg8 pins s σ H (.ref a) v vl vu lo hi sl Q I rx hs pl pu ⟨a, xs, rfl, SqT.of ha, fun hw => q a H (Same.refl _) (by rw [zgP hw]; exact ha), fun _ p hp => q p _ (zaf hp _) zad⟩
theorem zh7 {xs : List V} {k : Int} {n : Nat} (e : k = (n : Int)) : cutV xs none (some k) = xs.take n := by
 subst e
 unfold cutV
 rw [HT.sIx_none, HT.sIx_nat, List.drop_zero, Nat.sub_zero]
 by_cases h : n ≤ xs.length
 · rw [Nat.min_eq_left h]
 · rw [Nat.min_eq_right (by omega), List.take_of_length_le (Nat.le_refl _), List.take_of_length_le (by omega)]
theorem zh8 {xs : List V} {k : Int} {n : Nat} (e : k = (n : Int)) : cutV xs (some k) none = xs.drop n := by
 subst e
 unfold cutV
 rw [HT.sIx_none, HT.sIx_nat]
 by_cases h : n ≤ xs.length
 · rw [Nat.min_eq_left h]
   exact List.take_of_length_le (by simp)
 · rw [Nat.min_eq_right (by omega), Nat.sub_self, List.take_zero, List.drop_eq_nil_of_le (by omega)]
end
end L2
namespace L2
open PySem PySem.Spec PyProof.Rows
section
variable {P : Program} {w : World} {base : Heap} {l : List Env} {H H' : Hp} {s0 s' : Shared} {a C t : Addr} {B h' : Heap}
end
section
variable {X : Cx} {pins : List (Addr × Obj)} {σ : St} {H H' : Hp} {s s' : Shared} {a C : Addr}
end
def del (H : Hp) (a : Addr) : Hp := fun b => if b = a then none else H b
section
variable {X : Cx} {pins : List (Addr × Obj)} {σ : St} {H : Hp} {s : Shared} {e C : Addr}
end
section
variable {prog : Program} {w : World} {A : Around} {E : Value → Shared → Prop} {h : Heap} {g : Array GenState} {d : Drawn} {t : Nat} {os : OsState} {nm q : Str} {C N : Addr} {bs bm bmB : List Value} {hdct : Bool} {sn : List Str} {sub : List Value}
variable {ab : Bool} {col : Option Bool} {dd : Option Addr} {k0 k1 k2 k3 k5 : Option Value} {B newId initId : String} {rest : List Value}
end
section
variable {prog : Program} {w : World} {A : Around} {E : Value → Shared → Prop} {h : Heap} {g : Array GenState} {d : Drawn} {t : Nat} {os : OsState} {nm q : Str} {C N : Addr} {bs bm bmB : List Value} {hdct : Bool} {sn : List Str} {sub : List Value}
variable {ab : Bool} {col : Option Bool} {dd : Option Addr} {k0 k1 k2 k3 k5 : Option Value} {B newId initId : String} {rest : List Value}
end
section
variable {X : Cx}
end
section
variable {P : Program} {w : World} {K : PySem.W.Frag} {mg : Str → Option Value} {base : Heap} {N : List Str} {qual : Str} {scope : Scope} {f : Addr} {cd : Value} {A : Around} {outer : List Env} {s : Shared} {H : Hp} {E : XK}
end
section
variable {P : Program} {w : World} {K : PySem.W.Frag} {mg : Str → Option Value} {base : Heap} {N : List Str} {qual : Str} {scope : Scope} {f : Addr} {cd : Value} {A : Around} {outer : List Env} {s : Shared} {H : Hp} {E : XK}
end
section
variable {X : Cx} {E : XK} {C fI : Addr} {fd : FuncData} {k : Nat} {x : Str} {e1 : Expr} {t : TA} {np cpos pos : Pos}
end
section
variable {X : Cx} {pins : List (Addr × Obj)} {σ : St} {H : Hp} {s : Shared} {a : Addr} {o : HO}
end
section
variable {X : Cx} {pins : List (Addr × Obj)} {σ : St} {H : Hp} {s : Shared} {a : Addr}
end
section
variable {X : Cx} {pins pins' : List (Addr × Obj)} {σ : St} {H : Hp} {s : Shared} {RR : St → Value → Hp → Prop}
end
section
variable {P : Program} {w : World} {base : Heap} {l : List Env} {H H' : Hp} {s0 s' : Shared} {a C t : Addr} {B : Heap}
end
section
variable {M : Model} {A : Around} {E : Value → Shared → Prop} {h : Heap} {g : Array GenState} {d : Drawn} {t : Nat} {os : OsState} {nm q nm0 q0 : Str} {C N C0 N0 e : Addr} {bs bm bs0 bm0 : List Value} {hdct hdct0 : Bool} {sn sn0 : List Str} {sub sub0 : List Value}
variable {ab ab0 : Bool} {col col0 : Option Bool} {dd dd0 : Option Addr} {k0 k1 k2 k3 k5 j0 j1 j2 j3 j5 : Option Value} {newId newId0 : String} {oe : Obj}
end
section
variable {X : Cx} {C0 : Addr} {x n : Str} {i : Nat} {body suite : List Stmt} {b₀ : Stmt} {np hpos pos : Pos} {tb : (St → Value → Hp → Prop) → TS} {ts : TS}
end
section
variable {X : Cx}
end
open PySem.W (Looks looks_findIn looks_mroIn looks_typeIn)
section
variable {prog : Program} {w : World} {A : Around} {E : Value → Shared → Prop} {K : PySem.W.Frag} {h : Heap} {g : Array GenState} {d : Drawn} {t : Nat} {os : OsState} {a C : Addr}
end
section
variable {X : Cx}
def clsV : V → Value
 | .ref D => .ref D
 | .ty n => .type n
 | _ => .none
def zhP : V → Bool
 | .ref _ => true
 | .ty _ => true
 | _ => false
theorem zi4 {c : V} {u : Value} (h : zhP c = true) (r : RelV c u) : u = clsV c := by
 cases c with
 | ref D => exact r
 | ty n => exact r
 | _ => cases h
theorem ze2 : ∀ {cs : List V} {us : List Value}, cs.all zhP = true → Vals cs us → us = cs.map clsV
 | [], _, _, .nil => rfl
 | c :: cs, _, h, .cons r rs => by
  rw [List.all_cons, Bool.and_eq_true] at h
  rw [zi4 h.1 r, ze2 h.2 rs]; rfl
end
end L2
namespace L2
open PySem PySem.Spec PyProof.Rows
section
variable {X : Cx} {pos : Pos}
end
end L2
namespace WB
end WB
namespace WB
end WB
namespace L2
open PySem PySem.Spec PyProof.Rows
section
variable {X : Cx}
variable {e : Expr} {te : TE} {pos p2 p3 p4 : Pos}
end
end L2
namespace WB
end WB
namespace L2
open PySem PySem.Spec PyProof.Rows
section
variable {X : Cx} {pins : List (Addr × Obj)} {σ : St} {H : Hp} {s : Shared}
end
section
variable {X : Cx}
end
section
variable {X : Cx} {pins : List (Addr × Obj)} {σ : St} {H : Hp} {s : Shared}
end
open PySem.AutoSeq1 (wpAny_loadPart')
open PySem.MeetsSeq PySem.MeetsSeq2 PySem.MeetsSeq3 PySem.SeqRoads2
def EqIn (P : Program) (w : World) (A : Around) (s : Shared) (y x : Value) : Prop := ∀ (E : Value → Shared → Prop) (Q : Bool → Shared → Prop), Q true s → wpAny (model P w) A (eqBool y x) Q E s
theorem EqIn.of {P : Program} {w : World} {A : Around} {s : Shared} {y x : Value} (h : SeqAt.EqAt A s y x true) : EqIn P w A s y x := fun E Q q => h P w E Q q
section
variable {P : Program} {w : World}
theorem zfS (l b : Addr) (items items2 : Array Value) (n n2 : Nat) (dd dd2 : Option Addr) (sl sl2 : Array (Option Value)) (hsz : items.size = items2.size) (k : Nat) :
 ∀ i : Nat, items.size - i = k → ∀ (A : Around) (R : Result → Shared → Prop) (s : Shared), s.heap.get? l = some { cls := .type "list", dict := dd, data := .seq items n, slots := sl } → s.heap.get? b = some { cls := .type "list", dict := dd2, data := .seq items2 n2, slots := sl2 } →
  (∀ j (h1 : j < items.size) (h2 : j < items2.size), EqIn P w A.in1 s items[j] items2[j]) → R (.ok (.ret (.bool true))) s →
  wpAny (model P w) A.in1 (Builtin.«list.__eq__.loop» ⟨[.ref l, .ref b, rawInt i, rawInt 2], []⟩) (fun fin s' => match fin with | .done f => R (.ok f) s' | .again c' => c'.quiet = true ∧ codeAny (model P w) A c' R s') (fun e s' => R (.error e) s') s := by
 induction k with
 | zero =>
  intro i hk A R s hl hb he h
  obtain ⟨hp, g, d, tk, os⟩ := s
  wp_walk using wpAny_loadPart' hl, wpAny_loadPart' hb
  have o1 : items[((i : Nat) : Int).toNat]? = none := by simp; omega
  have o2 : items2[((i : Nat) : Int).toNat]? = none := by simp; omega
  rw [o1, o2]
  wp_walk using wpAny_loadPart' hl, wpAny_loadPart' hb
  show R (.ok (.ret (.bool (items.size == items2.size)))) _
  rw [hsz]
  simpa using h
 | succ k ih =>
  intro i hk A R s hl hb he h
  obtain ⟨hp, g, d, tk, os⟩ := s
  wp_walk using wpAny_loadPart' hl, wpAny_loadPart' hb
  have lt1 : i < items.size := by omega
  have lt2 : i < items2.size := by omega
  have o1 : items[((i : Nat) : Int).toNat]? = some items[i] := by simp [lt1]
  have o2 : items2[((i : Nat) : Int).toNat]? = some items2[i] := by simp [lt2]
  have hc : ((i : Int) + 1) = ((i + 1 : Nat) : Int) := by push_cast; rfl
  rw [o1, o2]
  refine wpAny_bind (he i lt1 lt2 _ _ ?_)
  wp_walk
  rw [hc]
  exact ⟨plainId_quiet plain_eq_loop _, codeAny_builtin entry_eq_loop (by
   rw [Around.under_plainId plain_eq_loop _]
   exact ih (i + 1) (by omega) A R _ hl hb he h)⟩
theorem zkN (l b : Addr) (items items2 : Array Value) (n n2 : Nat) (dd dd2 : Option Addr) (sl sl2 : Array (Option Value)) (hsz : items.size = items2.size) (A : Around) (R : Result → Shared → Prop) (s : Shared)
 (hl : s.heap.get? l = some { cls := .type "list", dict := dd, data := .seq items n, slots := sl }) (hb : s.heap.get? b = some { cls := .type "list", dict := dd2, data := .seq items2 n2, slots := sl2 })
 (he : ∀ j (h1 : j < items.size) (h2 : j < items2.size), EqIn P w A.in1 s items[j] items2[j]) (h : R (.ok (.ret (.bool true))) s) :
 wpAny (model P w) A.in1 (Builtin.«list.__eq__» ⟨[.ref l, .ref b], []⟩) (fun fin s' => match fin with | .done f => R (.ok f) s' | .again c' => c'.quiet = true ∧ codeAny (model P w) A c' R s') (fun e s' => R (.error e) s') s := by
 obtain ⟨hp, g, d, tk, os⟩ := s
 have f3 := AutoSeq1.sub_list_list
 have hne : ¬ (items.size != items2.size) = true := by simp [hsz]
 wp_walk using wpAny_loadPart' hl, wpAny_loadPart' hb
 exact ⟨plainId_quiet plain_eq_loop _, codeAny_builtin entry_eq_loop (by
  rw [Around.under_plainId plain_eq_loop _]
  exact zfS l b items items2 n n2 dd dd2 sl sl2 hsz _ 0 rfl A R _ hl hb he h)⟩
theorem zft {l b : Addr} {items items2 : Array Value} {A : Around} {s : Shared} {E : Value → Shared → Prop} {Q : Value → Shared → Prop} (hl : s.heap.IsList l items) (hb : s.heap.IsList b items2) (hsz : items.size = items2.size) (hu : A.units < cLine)
 (he : ∀ j (h1 : j < items.size) (h2 : j < items2.size), EqIn P w A.in1 s items[j] items2[j]) (h : Q (.bool true) s) : wpAny (model P w) A (richCompare .Eq (.ref l) (.ref b)) Q E s := by
 obtain ⟨⟨c1, dd, data, sl⟩, ho, hc, n, hd⟩ := id hl
 obtain ⟨⟨c2, dd2, data2, sl2⟩, ho2, hc2, n2, hd2⟩ := id hb
 simp only at hc hd hc2 hd2
 subst hc hd hc2 hd2
 refine wpAny_richCompare_same_room (op := .Eq) ⟨_, ho, rfl⟩ ⟨_, ho2, rfl⟩ F.slot_list_eq ?_ hu
 refine wpAny_call (codeAny_call_builtin F.slot_list_eq.plain F.entry_list_eq (F.slot_list_eq.check _ _ _ _ _ _ _ _ ⟨_, ho, rfl⟩ (F.args_list_eq_2 _ _) ?_))
 exact zkN l b items items2 n n2 dd dd2 sl sl2 hsz A (wants (fun v s' => v ≠ .notImplemented ∧ Q v s') E) s ho ho2 he (show Value.bool true ≠ Value.notImplemented ∧ Q (.bool true) s from ⟨(fun x => nomatch x), h⟩)
theorem zgc {l b : Addr} {items items2 : Array Value} {A : Around} {s : Shared} {E : Value → Shared → Prop} {Q : Value → Shared → Prop} (hl : s.heap.IsTuple l items) (hb : s.heap.IsTuple b items2) (hsz : items.size = items2.size) (hu : A.units < cLine)
 (he : ∀ j (h1 : j < items.size) (h2 : j < items2.size), EqIn P w A.in1 s items[j] items2[j]) (h : Q (.bool true) s) : wpAny (model P w) A (richCompare .Eq (.ref l) (.ref b)) Q E s := by
 obtain ⟨⟨c1, dd, data, sl⟩, ho, hc, n, hd⟩ := id hl
 obtain ⟨⟨c2, dd2, data2, sl2⟩, ho2, hc2, n2, hd2⟩ := id hb
 simp only at hc hd hc2 hd2
 subst hc hd hc2 hd2
 refine wpAny_richCompare_same_room (op := .Eq) ⟨_, ho, rfl⟩ ⟨_, ho2, rfl⟩ F.slot_tuple_eq (wpAny_call_entry F.slot_tuple_eq ⟨_, ho, rfl⟩ F.entry_tuple_eq ?_ (F.args_tuple_eq_2 _ _)) hu
 obtain ⟨hp, g, d, tk, os⟩ := s
 have f2 := AutoSeq1.sub_tuple_tuple
 have hZ : (items.toList.zip items2.toList).length = items.size := by simp [hsz]
 wp_walk using wpAny_loadPart' ho, wpAny_loadPart' ho2, wpAny_forIn_list _ (fun rest b s' => b.1 = none ∧ s' = ⟨hp, g, d, tk, os⟩ ∧ ∃ i, rest = (items.toList.zip items2.toList).drop i) _
 case turn =>
  rintro ⟨y, x⟩ rest b s' ⟨hb', rfl, i, hz⟩
  have lt0 : i < (items.toList.zip items2.toList).length := by
   rcases Nat.lt_or_ge i (items.toList.zip items2.toList).length with h' | h'
   · exact h'
   · rw [List.drop_of_length_le h'] at hz; cases hz
  have h1 : i < items.size := hZ ▸ lt0
  have h2 : i < items2.size := hsz ▸ h1
  rw [List.drop_eq_getElem_cons lt0] at hz
  injection hz with hyx hrest
  have hy : y = items[i] := by have := congrArg Prod.fst hyx; simpa using this
  have hx : x = items2[i] := by have := congrArg Prod.snd hyx; simpa using this
  subst hy hx
  refine wpAny_bind (he i h1 h2 _ _ ?_)
  wp_walk
  exact ⟨rfl, rfl, i + 1, hrest⟩
 case fin =>
  rintro ⟨b1, b2⟩ s' ⟨hb', rfl, i, hz⟩
  simp only at hb'
  subst hb'
  wp_walk
  refine ⟨_, rfl, ?_⟩
  have e : Builtin.Tuple.tupleCompareSizes .Eq items.size items2.size = Value.bool true := by simp [Builtin.Tuple.tupleCompareSizes, hsz]
  first | (rw [e]; exact ⟨(fun x => nomatch x), h⟩) | (simpa [Builtin.Tuple.tupleCompareSizes, hsz] using h)
 case h => exact ⟨rfl, rfl, 0, rfl⟩
end
end L2
namespace L2
open PySem PySem.Spec PyProof.Rows PySem.Calls
section
variable {P : Program} {w : World} {κ : Type} [DecidableEq κ] {knd : KeyKind P w κ} {A : Around} {E : Value → Shared → Prop} {s : Shared}
theorem zf5 {nm : String} {a b : Addr} {ka kb : List (κ × Value)} {Q : Bool → Shared → Prop} (ha : (a == sysModules) = false) (hb : (b == sysModules) = false)
 (da : s.heap.DictOf knd a ka) (db : s.heap.DictOf knd b kb) (hlen : ka.length = kb.length) (hits : ∀ (i : Nat) (k : κ) (v : Value), ka[i]? = some (k, v) → ∃ y, valueAt kb k = some y ∧ EqIn P w A s v y) (h : Q true s) :
 wpAny (model P w) A (Builtin.Dict.samePairs nm a b) Q E s := by
 obtain ⟨o1, m1, p1, g1, _, d1, q1, z1, _⟩ := da
 obtain ⟨o2, m2, p2, g2, _, d2, q2, z2, _⟩ := db
 have n1 : ka.length = m1.size := by rw [← z1.length]; exact Array.length_toList
 have n2 : kb.length = m2.size := by rw [← z2.length]; exact Array.length_toList
 have look : ∀ k, findBy knd.is m2 k = valueAt kb k := fun k => by
  rw [← z2.find k]
  clear n2 z2 q2 d2 g2
  obtain ⟨l⟩ := m2
  simp [findBy]
 have same : m1.size = m2.size := by omega
 unfold Builtin.Dict.samePairs Builtin.Dict.showsAll
 rw [if_neg (by rw [ha]; exact Bool.false_ne_true), if_neg (by rw [hb]; exact Bool.false_ne_true)]
 refine wpAny_bind (wpAny_pure (wpAny_bind (wpAny_pure (wpAny_bind (wpAny_dictEntries g1 d1 ?_)))))
 dsimp only
 refine wpAny_bind (wpAny_dictEntries g2 d2 ?_)
 rw [if_neg (by rw [same]; simp)]
 refine wpAny_bind (wpAny_dictEpoch g1 d1 (wpAny_bind ?_))
 rw [Std.Legacy.Range.forIn_eq_forIn_range']
 simp only [Std.Legacy.Range.size, Nat.sub_zero, Nat.add_sub_cancel, Nat.div_one]
 refine wpAny_forIn_list _ (fun rest q s' => s' = s ∧ q = (none, ()) ∧ ∃ i, rest = List.range' i (m1.size - i) ∧ i ≤ m1.size) _ ?_ ?_ _ _ ⟨rfl, rfl, 0, by simp, Nat.zero_le _⟩
 · rintro x rest q s' ⟨rfl, rfl, i, hr, hi⟩
   have lt0 : i < m1.size := by
    rcases Nat.lt_or_ge i m1.size with z | z
    · exact z
    · rw [Nat.sub_eq_zero_of_le z] at hr; simp at hr
   obtain ⟨rfl, ht⟩ : x = i ∧ rest = List.range' (i + 1) (m1.size - (i + 1)) := by
    have e : m1.size - i = (m1.size - (i + 1)) + 1 := by omega
    rw [e, List.range'_succ] at hr
    injection hr with z1 z2
    exact ⟨z1, z2⟩
   refine wpAny_bind (wpAny_dictEntries g1 d1 ?_)
   rw [Array.getElem?_eq_getElem lt0]
   have lt1 : x < ka.length := by omega
   obtain ⟨k, v, kv⟩ : ∃ k v, ka[x] = (k, v) := ⟨_, _, rfl⟩
   have kv' : ka[x]? = some (k, v) := by rw [List.getElem?_eq_getElem lt1, kv]
   obtain ⟨hkey, hval⟩ := z1.get? (i := x) (e := m1[x]) (k := k) (v := v) (by rw [Array.getElem?_toList]; exact Array.getElem?_eq_getElem lt0) kv'
   obtain ⟨k', hk', hh⟩ := q1 m1[x] (Array.getElem_mem lt0)
   have ekk : k' = k := knd.inj _ _ _ hk' hkey
   rw [ekk] at hh
   obtain ⟨y, hy, he⟩ := hits x k v kv'
   show wpAny _ _ (holding [m1[x].key, m1[x].val] _ >>= _) _ _ _
   rw [hh]
   refine wpAny_bind (wpAny_holding (wpAny_bind (wpAny_dictFind_of hkey g2 d2 q2 ?_)))
   cases hj : m2.findIdx? fun e => knd.is k e.key with
   | none =>
    have : valueAt kb k = none := by rw [← look k, findBy_of_findIdx?, hj]
    rw [this] at hy; cases hy
   | some j =>
    obtain ⟨jlt, _, _⟩ := Array.findIdx?_eq_some_iff_getElem.mp hj
    have hv' : valueAt kb k = some m2[j].val := by
     rw [← look k, findBy_of_findIdx?, hj]
     simp [Array.getElem?_eq_getElem jlt]
    refine wpAny_bind (wpAny_dictEntries g2 d2 ?_)
    rw [Array.getElem?_eq_getElem jlt]
    have ey : m2[j].val = y := Option.some.inj (hv'.symm.trans hy)
    rw [← ey, ← hval] at he
    refine wpAny_holding (he _ _ ?_)
    show wpAny _ _ (if (!true) = true then _ else _) _ _ _
    rw [if_neg (by decide)]
    refine wpAny_bind (wpAny_dictEpoch g1 d1 ?_)
    rw [if_neg (by simp)]
    exact wpAny_pure ⟨rfl, rfl, x + 1, ht, lt0⟩
 · rintro q s' ⟨rfl, rfl, i, hr, hi⟩
   exact wpAny_pure h
theorem zea {a b : Addr} {ka kb : List (κ × Value)} {Q : Value → Shared → Prop} (ha : (a == sysModules) = false) (hb : (b == sysModules) = false)
 (da : s.heap.DictOf knd a ka) (db : s.heap.DictOf knd b kb) (hu : A.units < cLine) (hlen : ka.length = kb.length) (hits : ∀ (i : Nat) (k : κ) (v : Value), ka[i]? = some (k, v) → ∃ y, valueAt kb k = some y ∧ EqIn P w A.in1 s v y) (h : Q (.bool true) s) :
 wpAny (model P w) A (richCompare .Eq (.ref a) (.ref b)) Q E s := by
 refine wpAny_richCompare_same_room (op := .Eq) da.typeIs db.typeIs PySem.F.slot_dict_eq (wpAny_call_entry PySem.F.slot_dict_eq da.typeIs PySem.F.entry_dict_eq ?_ (PySem.F.args_dict_eq_2 _ _)) hu
 show wpAny _ _ (Builtin.Dict.dictSlotArgs "__eq__" ⟨[.ref a, .ref b], []⟩ >>= _) _ _ s
 unfold Builtin.Dict.dictSlotArgs
 refine wpAny_bind (wpAny_bind (wpAny_notOrdered_dict da.typeIs ?_))
 show wpAny _ _ (pure (Value.ref a, Value.ref b)) _ _ s
 refine wpAny_pure (wpAny_bind (wpAny_isInstance (T := "dict") db.typeIs PySem.F.sub_dict_dict ?_))
 simp only [Bool.not_true, Bool.false_eq_true, if_false]
 refine wpAny_bind (wpAny_pure (wpAny_bind (wpAny_pure (wpAny_bind (zf5 ha hb da db hlen hits ?_)))))
 exact wpAny_pure ⟨_, rfl, (fun x => nomatch x), by simpa using h⟩
end
end L2
namespace L2
open PySem PySem.Spec PyProof.Rows
inductive DY where
 | non
 | bl (b : Bool)
 | int (i : Int)
 | str (x : Str)
 | lst (ds : List DY)
 | tup (ds : List DY)
 | dic
 | da (d : DY)
mutual
def RepY (H : Hp) : DY → V → Prop
 | .non, v => v = .non
 | .bl b, v => v = .bl b
 | .int i, v => v = .int i
 | .str x, v => v = .str x ∧ x.length ≤ 900
 | .lst ds, v => ∃ a xs, v = .ref a ∧ H a = some (.lst xs) ∧ ds.length ≤ 900 ∧ RepYs H ds xs
 | .tup ds, v => ∃ a xs, v = .ref a ∧ H a = some (.tup xs) ∧ ds.length ≤ 900 ∧ RepYs H ds xs
 | .dic, v => ∃ a, v = .ref a ∧ H a = some (.dK [])
 | .da d, v => ∃ a u, v = .ref a ∧ H a = some (.dK [(.inr "a", u)]) ∧ RepY H d u
def RepYs (H : Hp) : List DY → List V → Prop
 | [], xs => xs = []
 | d :: ds, xs => ∃ x r, xs = x :: r ∧ RepY H d x ∧ RepYs H ds r
end
mutual
theorem RepY.same {H H' : Hp} (s : Same H H') : ∀ (d : DY) {v : V}, RepY H d v → RepY H' d v
 | .non, v, h => by rw [RepY] at *; exact h
 | .bl b, v, h => by rw [RepY] at *; exact h
 | .int i, v, h => by rw [RepY] at *; exact h
 | .str x, v, h => by rw [RepY] at *; exact h
 | .lst ds, v, h => by rw [RepY] at *; obtain ⟨a, xs, e, h1, h0, h2⟩ := h; exact ⟨a, xs, e, s _ _ h1, h0, RepYs.same s ds h2⟩
 | .tup ds, v, h => by rw [RepY] at *; obtain ⟨a, xs, e, h1, h0, h2⟩ := h; exact ⟨a, xs, e, s _ _ h1, h0, RepYs.same s ds h2⟩
 | .dic, v, h => by rw [RepY] at *; obtain ⟨a, e, h1⟩ := h; exact ⟨a, e, s _ _ h1⟩
 | .da d, v, h => by rw [RepY] at *; obtain ⟨a, u, e, h1, h2⟩ := h; exact ⟨a, u, e, s _ _ h1, RepY.same s d h2⟩
theorem RepYs.same {H H' : Hp} (s : Same H H') : ∀ (ds : List DY) {xs : List V}, RepYs H ds xs → RepYs H' ds xs
 | [], xs, h => by rw [RepYs] at *; exact h
 | d :: ds, xs, h => by rw [RepYs] at *; obtain ⟨x, r, e, h1, h2⟩ := h; exact ⟨x, r, e, RepY.same s d h1, RepYs.same s ds h2⟩
end
theorem RepYs.length {H : Hp} : ∀ {ds : List DY} {xs : List V}, RepYs H ds xs → xs.length = ds.length
 | [], xs, h => by rw [RepYs] at h; rw [h]; rfl
 | d :: ds, xs, h => by
  rw [RepYs] at h
  obtain ⟨x, r, rfl, _, h⟩ := h
  rw [List.length_cons, List.length_cons, RepYs.length h]
theorem RepYs.get {H : Hp} : ∀ {ds : List DY} {xs : List V} {i : Nat} {x : V}, RepYs H ds xs → xs[i]? = some x → ∃ d, ds[i]? = some d ∧ RepY H d x
 | [], xs, i, x, h, e => by rw [RepYs] at h; subst h; simp at e
 | d :: ds, xs, 0, x, h, e => by
  rw [RepYs] at h
  obtain ⟨y, r, rfl, h1, h2⟩ := h
  simp at e
  subst e
  exact ⟨d, rfl, h1⟩
 | d :: ds, xs, i + 1, x, h, e => by
  rw [RepYs] at h
  obtain ⟨y, r, rfl, h1, h2⟩ := h
  simp at e
  obtain ⟨d', e1, e2⟩ := RepYs.get h2 e
  exact ⟨d', by simpa using e1, e2⟩
mutual
def zaP : DY → Nat
 | .lst ds => zbb ds + 1
 | .tup ds => zbb ds + 1
 | .da d => zaP d + 1
 | _ => 0
def zbb : List DY → Nat
 | [] => 0
 | d :: ds => max (zaP d) (zbb ds)
end
section
variable {X : Cx} {pins : List (Addr × Obj)} {σ : St} {H : Hp} {s : Shared}
theorem zcK {P : Program} {w : World} {A : Around} {l b : Addr} (h : ∀ (E : Value → Shared → Prop) (Q : Value → Shared → Prop), Q (.bool true) s → wpAny (model P w) A (richCompare .Eq (.ref l) (.ref b)) Q E s) : EqIn P w A s (.ref l) (.ref b) := fun E Q hq => by
 by_cases e : l = b
 · subst e
   exact SeqAt.EqAt.same (.ref l) P w E Q hq
 · unfold eqBool
   refine wpAny_holding ?_
   refine wpAny_ite_split (fun hab => absurd (by have := eq_of_beq hab; injection this) e) (fun _ => ?_)
   exact wpAny_bind (h E _ (wpAny_truthy_bool hq))
mutual
theorem zes (I : Inv X pins σ H s) : ∀ (A : Around) (d : DY) (v v' : V) (u u' : Value), RepY H d v → RepY H d v' → RelV v u → RelV v' u' → A.units + zaP d < cLine → EqIn X.prog X.w A s u u'
 | A, .non, v, v', u, u', h, h', r, r', z => by
  rw [RepY] at h h'
  subst h h'
  exact EqIn.of (zbT I A .non .non _ _ _ _ (by rw [Rep]) (by rw [Rep]) r r' (show A.units + 0 < cLine by omega))
 | A, .bl b, v, v', u, u', h, h', r, r', z => by
  rw [RepY] at h h'
  subst h h'
  have := zbT I A (.bl b) (.bl b) _ _ _ _ (by rw [Rep]) (by rw [Rep]) r r' (show A.units + 0 < cLine by omega)
  rw [za8] at this
  exact EqIn.of this
 | A, .int b, v, v', u, u', h, h', r, r', z => by
  rw [RepY] at h h'
  subst h h'
  have := zbT I A (.int b) (.int b) _ _ _ _ (by rw [Rep]) (by rw [Rep]) r r' (show A.units + 0 < cLine by omega)
  rw [za8] at this
  exact EqIn.of this
 | A, .str b, v, v', u, u', h, h', r, r', z => by
  rw [RepY] at h h'
  obtain ⟨rfl, _⟩ := h
  obtain ⟨rfl, _⟩ := h'
  have := zbT I A (.str b) (.str b) _ _ _ _ (by rw [Rep]) (by rw [Rep]) r r' (show A.units + 0 < cLine by omega)
  rw [za8] at this
  exact EqIn.of this
 | A, .lst ds, v, v', u, u', h, h', r, r', z => by
  rw [RepY] at h h'
  obtain ⟨a, xs, rfl, h1, _, h2⟩ := h
  obtain ⟨a', xs', rfl, h1', _, h2'⟩ := h'
  cases (show u = Value.ref a from r)
  cases (show u' = Value.ref a' from r')
  obtain ⟨_, its, n, rv, hg⟩ := (show ObjOk X.prog X.w H s.heap a (.lst xs) from I.hok a _ h1)
  obtain ⟨_, its', n', rv', hg'⟩ := (show ObjOk X.prog X.w H s.heap a' (.lst xs') from I.hok a' _ h1')
  have l1 := h2.length
  have l2 := h2'.length
  have l3 := rv.length
  have l4 := rv'.length
  rw [zaP] at z
  refine zcK fun E Q q => zft ⟨_, hg, rfl, _, rfl⟩ ⟨_, hg', rfl, _, rfl⟩ (by simp only [List.size_toArray]; omega) (by omega) (fun j k1 k2 => ?_) q
  have := zcd I A.in1 ds xs xs' its its' h2 h2' rv rv' (by rw [Around.in1_units]; omega) j (by simpa using k1) (by simpa using k2)
  simpa using this
 | A, .tup ds, v, v', u, u', h, h', r, r', z => by
  rw [RepY] at h h'
  obtain ⟨a, xs, rfl, h1, _, h2⟩ := h
  obtain ⟨a', xs', rfl, h1', _, h2'⟩ := h'
  cases (show u = Value.ref a from r)
  cases (show u' = Value.ref a' from r')
  obtain ⟨_, its, rv, o, hg, hc, _, n, hd⟩ := (show ObjOk X.prog X.w H s.heap a (.tup xs) from I.hok a _ h1)
  obtain ⟨_, its', rv', o', hg', hc', _, n', hd'⟩ := (show ObjOk X.prog X.w H s.heap a' (.tup xs') from I.hok a' _ h1')
  have l1 := h2.length
  have l2 := h2'.length
  have l3 := rv.length
  have l4 := rv'.length
  rw [zaP] at z
  refine zcK fun E Q q => zgc ⟨_, hg, hc, _, hd⟩ ⟨_, hg', hc', _, hd'⟩ (by simp only [List.size_toArray]; omega) (by omega) (fun j k1 k2 => ?_) q
  have := zcd I A.in1 ds xs xs' its its' h2 h2' rv rv' (by rw [Around.in1_units]; omega) j (by simpa using k1) (by simpa using k2)
  simpa using this
 | A, .dic, v, v', u, u', h, h', r, r', z => by
  rw [RepY] at h h'
  obtain ⟨a, rfl, h1⟩ := h
  obtain ⟨a', rfl, h1'⟩ := h'
  cases (show u = Value.ref a from r)
  cases (show u' = Value.ref a' from r')
  obtain ⟨_, hS, vs, rk, dd⟩ := zeu I.hok h1
  obtain ⟨_, hS', vs', rk', dd'⟩ := zeu I.hok h1'
  cases rk
  cases rk'
  exact zcK fun E Q q => zea hS hS' dd dd' (by omega) rfl (fun i k v e => by simp at e) q
 | A, .da d, v, v', u, u', h, h', r, r', z => by
  rw [RepY] at h h'
  obtain ⟨a, y, rfl, h1, h2⟩ := h
  obtain ⟨a', y', rfl, h1', h2'⟩ := h'
  cases (show u = Value.ref a from r)
  cases (show u' = Value.ref a' from r')
  obtain ⟨_, hS, vs, rk, dd⟩ := zeu I.hok h1
  obtain ⟨_, hS', vs', rk', dd'⟩ := zeu I.hok h1'
  rw [zaP] at z
  have l1 : 1 = vs.length := KV.length rk
  have l2 : 1 = vs'.length := KV.length rk'
  refine zcK fun E Q q => zea hS hS' dd dd' (by omega) (by omega) (fun i k w e => ?_) q
  cases rk with
  | cons p1 p2 =>
   cases p2
   cases rk' with
   | cons p1' p2' =>
    cases p2'
    rename_i kw kw'
    obtain ⟨k0, w0⟩ := kw
    obtain ⟨k0', w0'⟩ := kw'
    obtain ⟨e1, r1⟩ := p1
    obtain ⟨e1', r1'⟩ := p1'
    dsimp only at e1 e1' r1 r1'
    subst e1 e1'
    cases i with
    | succ i => simp at e
    | zero =>
     simp at e
     obtain ⟨rfl, rfl⟩ := e
     refine ⟨w0', by simp [valueAt], zes I A.in1 d y y' w0 w0' h2 h2' r1 r1' (by rw [Around.in1_units]; omega)⟩
theorem zcd (I : Inv X pins σ H s) : ∀ (A : Around) (ds : List DY) (vs ws : List V) (us ys : List Value), RepYs H ds vs → RepYs H ds ws → Vals vs us → Vals ws ys → A.units + zbb ds < cLine →
 ∀ (j : Nat) (h1 : j < us.length) (h2 : j < ys.length), EqIn X.prog X.w A s us[j] ys[j]
 | A, [], vs, ws, us, ys, h, h', r, r', z => by
  rw [RepYs] at h
  subst h
  cases r
  intro j h1
  simp at h1
 | A, d :: ds, vs, ws, us, ys, h, h', r, r', z => by
  rw [RepYs] at h h'
  obtain ⟨x, q, rfl, g1, g2⟩ := h
  obtain ⟨x', q', rfl, g1', g2'⟩ := h'
  rw [zbb] at z
  cases r with
  | cons r1 r2 =>
   cases r' with
   | cons r1' r2' =>
    intro j h1 h2
    cases j with
    | zero => exact zes I A d x x' _ _ g1 g1' r1 r1' (by omega)
    | succ j => exact zcd I A ds q q' _ _ g2 g2' r2 r2' (by omega) j (by simpa using h1) (by simpa using h2)
end
end
section
variable {X : Cx} {pins : List (Addr × Obj)} {σ : St} {H : Hp} {s : Shared}
theorem ziv (I : Inv X pins σ H s) (A : Around) (d : DY) (v v' : V) (u u' : Value) (h : RepY H d v) (h' : RepY H d v') (r : RelV v u) (r' : RelV v' u') (z : A.units + zaP d < cLine) {E : Value → Shared → Prop} {Q : Value → Shared → Prop} (q : Q (.bool true) s) :
 wpAny (model X.prog X.w) A (richCompare .Eq u u') Q E s := by
 cases d with
 | non =>
  rw [RepY] at h h'
  subst h h'
  exact zdk I A .non .non _ _ _ _ (by rw [Rep]) (by rw [Rep]) r r' (show A.units + 0 < cLine by omega) X.prog X.w _ _ q
 | bl b =>
  rw [RepY] at h h'
  subst h h'
  have := zdk I A (.bl b) (.bl b) _ _ _ _ (by rw [Rep]) (by rw [Rep]) r r' (show A.units + 0 < cLine by omega)
  rw [za8] at this
  exact this X.prog X.w _ _ q
 | int b =>
  rw [RepY] at h h'
  subst h h'
  have := zdk I A (.int b) (.int b) _ _ _ _ (by rw [Rep]) (by rw [Rep]) r r' (show A.units + 0 < cLine by omega)
  rw [za8] at this
  exact this X.prog X.w _ _ q
 | str b =>
  rw [RepY] at h h'
  obtain ⟨rfl, _⟩ := h
  obtain ⟨rfl, _⟩ := h'
  have := zdk I A (.str b) (.str b) _ _ _ _ (by rw [Rep]) (by rw [Rep]) r r' (show A.units + 0 < cLine by omega)
  rw [za8] at this
  exact this X.prog X.w _ _ q
 | lst ds =>
  rw [RepY] at h h'
  obtain ⟨a, xs, rfl, h1, _, h2⟩ := h
  obtain ⟨a', xs', rfl, h1', _, h2'⟩ := h'
  cases (show u = Value.ref a from r)
  cases (show u' = Value.ref a' from r')
  obtain ⟨_, its, n, rv, hg⟩ := (show ObjOk X.prog X.w H s.heap a (.lst xs) from I.hok a _ h1)
  obtain ⟨_, its', n', rv', hg'⟩ := (show ObjOk X.prog X.w H s.heap a' (.lst xs') from I.hok a' _ h1')
  have l1 := h2.length
  have l2 := h2'.length
  have l3 := rv.length
  have l4 := rv'.length
  rw [zaP] at z
  refine zft ⟨_, hg, rfl, _, rfl⟩ ⟨_, hg', rfl, _, rfl⟩ (by simp only [List.size_toArray]; omega) (by omega) (fun j k1 k2 => ?_) q
  have := zcd I A.in1 ds xs xs' its its' h2 h2' rv rv' (by rw [Around.in1_units]; omega) j (by simpa using k1) (by simpa using k2)
  simpa using this
 | tup ds =>
  rw [RepY] at h h'
  obtain ⟨a, xs, rfl, h1, _, h2⟩ := h
  obtain ⟨a', xs', rfl, h1', _, h2'⟩ := h'
  cases (show u = Value.ref a from r)
  cases (show u' = Value.ref a' from r')
  obtain ⟨_, its, rv, o, hg, hc, _, n, hd⟩ := (show ObjOk X.prog X.w H s.heap a (.tup xs) from I.hok a _ h1)
  obtain ⟨_, its', rv', o', hg', hc', _, n', hd'⟩ := (show ObjOk X.prog X.w H s.heap a' (.tup xs') from I.hok a' _ h1')
  have l1 := h2.length
  have l2 := h2'.length
  have l3 := rv.length
  have l4 := rv'.length
  rw [zaP] at z
  refine zgc ⟨_, hg, hc, _, hd⟩ ⟨_, hg', hc', _, hd'⟩ (by simp only [List.size_toArray]; omega) (by omega) (fun j k1 k2 => ?_) q
  have := zcd I A.in1 ds xs xs' its its' h2 h2' rv rv' (by rw [Around.in1_units]; omega) j (by simpa using k1) (by simpa using k2)
  simpa using this
 | dic =>
  rw [RepY] at h h'
  obtain ⟨a, rfl, h1⟩ := h
  obtain ⟨a', rfl, h1'⟩ := h'
  cases (show u = Value.ref a from r)
  cases (show u' = Value.ref a' from r')
  obtain ⟨_, hS, vs, rk, dd⟩ := zeu I.hok h1
  obtain ⟨_, hS', vs', rk', dd'⟩ := zeu I.hok h1'
  cases rk
  cases rk'
  exact zea hS hS' dd dd' (by omega) rfl (fun i k v e => by simp at e) q
 | da d =>
  rw [RepY] at h h'
  obtain ⟨a, y, rfl, h1, h2⟩ := h
  obtain ⟨a', y', rfl, h1', h2'⟩ := h'
  cases (show u = Value.ref a from r)
  cases (show u' = Value.ref a' from r')
  obtain ⟨_, hS, vs, rk, dd⟩ := zeu I.hok h1
  obtain ⟨_, hS', vs', rk', dd'⟩ := zeu I.hok h1'
  rw [zaP] at z
  have l1 : 1 = vs.length := KV.length rk
  have l2 : 1 = vs'.length := KV.length rk'
  refine zea hS hS' dd dd' (by omega) (by omega) (fun i k w e => ?_) q
  cases rk with
  | cons p1 p2 =>
   cases p2
   cases rk' with
   | cons p1' p2' =>
    cases p2'
    rename_i kw kw'
    obtain ⟨k0, w0⟩ := kw
    obtain ⟨k0', w0'⟩ := kw'
    obtain ⟨e1, r1⟩ := p1
    obtain ⟨e1', r1'⟩ := p1'
    dsimp only at e1 e1' r1 r1'
    subst e1 e1'
    cases i with
    | succ i => simp at e
    | zero =>
     simp at e
     obtain ⟨rfl, rfl⟩ := e
     refine ⟨w0', by simp [valueAt], zes I A.in1 d y y' w0 w0' h2 h2' r1 r1' (by rw [Around.in1_units]; omega)⟩
end
section
variable {X : Cx}
def rEqY : R2 := fun x y H Q => ∃ d, RepY H d x ∧ RepY H d y ∧ zaP d < 60 ∧ Q (.bl true) H
theorem zkx (hr : zcO X) : OpR X (compareOp .Eq) rEqY := by
 intro pins s σ H x y v u Q I rx ry h
 obtain ⟨d, h1, h2, h3, q⟩ := h
 unfold zcO at hr
 exact ziv I X.A d x y v u h1 h2 rx ry (by omega) ⟨.bl true, H, I, rfl, q⟩
theorem zdb : zc0 X (.builtin "isinstance") (fun xs H Q => ∃ x t tp cs b, xs = [x, .ref tp] ∧ TyOf X.K H x (.type t) ∧ H tp = some (.tup cs) ∧ cs.all zhP = true ∧ PySem.W.kitAny X.K (.type t) (cs.map clsV) = some b ∧ Q (.bl b) H) := by
 intro pins s σ H xs us Q I r h
 obtain ⟨x, t, tp, cs, b, rfl, ty, ht, hc, e, q⟩ := h
 obtain ⟨u, w', rfl, ru, rw'⟩ := zgS r
 cases (show w' = Value.ref tp from rw')
 obtain ⟨_, its, rv, o, h1, h2, h3, n, h4⟩ := (show ObjOk X.prog X.w H s.heap tp (.tup cs) from I.hok tp _ ht)
 obtain ⟨oc, od, oda, osl⟩ := o
 dsimp only at h2 h3 h4
 subst h2 h3 h4
 have hi : its = cs.map clsV := ze2 hc rv
 subst hi
 have fin : ∀ tk, EP X pins σ Q (.bool b) { s with toks := tk } := fun tk => ⟨.bl b, H, I.tok tk, rfl, q⟩
 generalize ht' : (Value.type t) = T at ty e
 cases ty with
 | non => cases (show u = Value.none from ru); exact PySem.W.kia_tup PySem.W.kitx_none I.kIn True.intro h1 e (fun z => nomatch z) fin
 | bl y => cases (show u = Value.bool y from ru); exact PySem.W.kia_tup PySem.W.kitx_bool I.kIn True.intro h1 e (fun z => nomatch z) fin
 | int i => obtain ⟨t, q⟩ := (show ∃ t, u = Value.int i t from ru); cases q; exact PySem.W.kia_tup PySem.W.kitx_int I.kIn True.intro h1 e (fun z => nomatch z) fin
 | str y => obtain ⟨t, q⟩ := (show ∃ t, u = Value.str y t from ru); cases q; exact PySem.W.kia_tup PySem.W.kitx_str I.kIn True.intro h1 e (fun z => nomatch z) fin
 | flt y => obtain ⟨t, q⟩ := (show ∃ t, u = Value.float y t from ru); cases q; exact PySem.W.kia_tup PySem.W.kitx_float I.kIn True.intro h1 e (fun z => nomatch z) fin
 | @lst a xs ea =>
  cases (show u = Value.ref a from ru)
  obtain ⟨_, _, n, _, g1⟩ := (show ObjOk X.prog X.w H s.heap a (.lst xs) from I.hok a _ ea)
  exact PySem.W.kia_tup PySem.W.kitx_list I.kIn ⟨_, g1, rfl⟩ h1 e (fun z => nomatch z) fin
 | @tup a xs ea =>
  cases (show u = Value.ref a from ru)
  obtain ⟨_, _, _, o, g1, g2, _⟩ := (show ObjOk X.prog X.w H s.heap a (.tup xs) from I.hok a _ ea)
  exact PySem.W.kia_tup PySem.W.kitx_tuple I.kIn ⟨o, g1, g2⟩ h1 e (fun z => nomatch z) fin
 | @dK a kvs ea =>
  cases (show u = Value.ref a from ru)
  obtain ⟨_, _, vs, _, p⟩ := (show ObjOk X.prog X.w H s.heap a (.dK kvs) from I.hok a _ ea)
  obtain ⟨o, es, ep, g1, g2, _⟩ := p
  exact PySem.W.kia_tup PySem.W.kitx_dict I.kIn ⟨o, g1, g2.1⟩ h1 e (fun z => nomatch z) fin
 | @frz a ob xs ea =>
  cases (show u = Value.ref a from ru)
  obtain ⟨_, _, _, n, _, g1⟩ := (show ObjOk X.prog X.w H s.heap a (.frz ob (.lst xs)) from I.hok a _ ea)
  exact PySem.W.kia_tup PySem.W.kitx_list I.kIn ⟨_, g1, rfl⟩ h1 e (fun z => nomatch z) fin
 | @dT a kvs ea =>
  cases (show u = Value.ref a from ru)
  obtain ⟨_, _, xs, _, o, es, ep, g1, g2, _⟩ := (show ObjOk X.prog X.w H s.heap a (.dT kvs) from I.hok a _ ea)
  exact PySem.W.kia_tup PySem.W.kitx_dict I.kIn ⟨o, g1, g2.1⟩ h1 e (fun z => nomatch z) fin
 | ins => cases ht'
end
section
variable {X : Cx}
end
def zga (D : Nat) (sp : Nat → Sp) : Sp := fun vs H Q E => ∃ n, n ≤ D ∧ sp n vs H Q E
section
variable {P : Program} {w : World} {K : PySem.W.Frag} {mg : Str → Option Value} {base : Heap}
def zk7 : Sp := fun _ _ _ _ => False
theorem zja {x : Str} {st : Stmt} {f : Addr} {fd : FuncData} {N ps : List Str} (F : Fun K x x st f fd) (S : FnScope N ps (zag st)) (b : Binds K fd ps []) (M : mg x = some (.ref f)) (L : Nat) (sp : Nat → Sp)
 (step : ∀ n sp0, (∀ m, n = m + 1 → sp0 = sp m) → FnH P w K mg base (L + 1 + n) x ps sp0 → FnOk P w K mg base CX0 (L + 1 + n + 1) f fd ps (sp n)) : ∀ n, FnOk P w K mg base CX0 (L + 1 + n + 1) f fd ps (sp n)
 | 0 => step 0 zk7 (fun m z => by cases z) ⟨f, fd, F.ok (k := L) S (fun _ _ _ _ h => h.elim) (fun _ _ _ _ _ _ _ _ _ h => h.elim), b, F.kp, M⟩
 | n + 1 => step (n + 1) (sp n) (fun m z => by cases z; rfl) ⟨f, fd, zja F S b M L sp step n, b, F.kp, M⟩
theorem zjq {f : Addr} {fd : FuncData} {ps : List Str} {L D : Nat} {sp : Nat → Sp} (h : ∀ n, FnOk P w K mg base CX0 (L + 1 + n + 1) f fd ps (sp n)) : FnOk P w K mg base CX0 (L + D + 2) f fd ps (zga D sp) :=
 ⟨fun vs H Q E ⟨n, _, q⟩ => (h n).len vs H Q E q, fun A outer s H args us vs Q E hr he hb hv ⟨n, hn, q⟩ => (h n).run A outer s H args us vs Q E (hr.mono (by omega)) he hb hv q⟩
end
section
variable {X : Cx}
def rIx2 (K : PySem.W.Frag) : R2 := fun x y H Q => ∃ p xs i v, x = .ref p ∧ y = .int i ∧ (SqL K H p xs ∨ SqT K H p xs) ∧ atI xs i = some v ∧ Q v H
theorem zkM : IxR X (rIx2 X.K) := by
 intro value slice pins s σ H x y v u Q I rx ry h hs
 obtain ⟨p, xs, i, z, rfl, rfl, hq, he, q⟩ := h
 rcases hq with hq | hq
 · exact zaJ value slice pins s σ H _ _ v u Q I rx ry ⟨p, xs, i, z, rfl, rfl, hq, he, q⟩ hs
 · exact zcJ value slice pins s σ H _ _ v u Q I rx ry ⟨p, xs, i, z, rfl, rfl, hq, he, q⟩ hs
theorem zhL (K : PySem.W.Frag) (h : X.K = K) : IxR X (rIx2 K) := by subst h; exact zkM
end
def eD : Option Int → DY
 | none => .non
 | some i => .int i
theorem zhh (H : Hp) (o : Option Int) : RepY H (eD o) (eV o) := by
 cases o with
 | none => show RepY H .non .non; rw [RepY]
 | some i => show RepY H (.int i) (.int i); rw [RepY]
theorem ziZ (o : Option Int) : zaP (eD o) = 0 := by
 cases o <;> rfl
theorem RepYs.nil {H : Hp} : RepYs H [] [] := by rw [RepYs]
theorem RepYs.cons {H : Hp} {d : DY} {ds : List DY} {x : V} {xs : List V} (h : RepY H d x) (hs : RepYs H ds xs) : RepYs H (d :: ds) (x :: xs) := by rw [RepYs]; exact ⟨x, xs, rfl, h, hs⟩
theorem zjA {H : Hp} {a : Addr} {ds : List DY} {xs : List V} (h : H a = some (.lst xs)) (hs : RepYs H ds xs) (hl : xs.length ≤ 900) : RepY H (.lst ds) (.ref a) := by
 rw [RepY]
 exact ⟨a, xs, rfl, h, by rw [← hs.length]; exact hl, hs⟩
theorem zhf {H : Hp} {a : Addr} {ds : List DY} {xs : List V} (h : H a = some (.tup xs)) (hs : RepYs H ds xs) (hl : xs.length ≤ 900) : RepY H (.tup ds) (.ref a) := by
 rw [RepY]
 exact ⟨a, xs, rfl, h, by rw [← hs.length]; exact hl, hs⟩
theorem zcY : ∀ {ds : List DY} {m : Nat}, (∀ d ∈ ds, zaP d ≤ m) → zbb ds ≤ m
 | [], m, _ => by rw [zbb]; exact Nat.zero_le _
 | d :: ds, m, h => by
  rw [zbb]
  have h1 := h d (List.mem_cons_self ..)
  have h2 := zcY fun e he => h e (List.mem_cons_of_mem _ he)
  omega
theorem zcZ : ∀ {ds : List DY} {d : DY}, d ∈ ds → zaP d ≤ zbb ds
 | [], d, h => nomatch h
 | e :: ds, d, h => by
  rw [zbb]
  rcases List.mem_cons.mp h with rfl | h
  · omega
  · have := zcZ h
    omega
theorem zjh {a b : Option Int} (h : eV a = eV b) : a = b := by
 cases a <;> cases b <;> simp [eV] at h ⊢
 exact h
theorem zeO {H : Hp} : ∀ ps qs : List (Addr × WP), (∀ p ∈ ps, H p.1 = some (.tup [.str p.2.1, eV p.2.2.1, eV p.2.2.2])) → (∀ p ∈ qs, H p.1 = some (.tup [.str p.2.1, eV p.2.2.1, eV p.2.2.2])) → (ps.map fun p => V.ref p.1) = (qs.map fun p => V.ref p.1) → ps.map (·.2) = qs.map (·.2)
 | [], [], _, _, _ => rfl
 | [], _ :: _, _, _, h => by simp at h
 | _ :: _, [], _, _, h => by simp at h
 | p :: ps, q :: qs, h1, h2, h => by
  rw [List.map_cons, List.map_cons, List.cons.injEq] at h
  have e1 : p.1 = q.1 := by injection h.1
  have a1 := h1 p List.mem_cons_self
  have a2 := h2 q List.mem_cons_self
  rw [e1, a2] at a1
  have e2 : p.2 = q.2 := by
   obtain ⟨_, f, lo, hi⟩ := p
   obtain ⟨_, f', lo', hi'⟩ := q
   simp only [Option.some.injEq, HO.tup.injEq, List.cons.injEq, V.str.injEq, and_true] at a1
   obtain ⟨z1, z2, z3⟩ := a1
   rw [z1, zjh z2, zjh z3]
  rw [List.map_cons, List.map_cons, e2, zeO ps qs (fun x hx => h1 x (List.mem_cons_of_mem _ hx)) (fun x hx => h2 x (List.mem_cons_of_mem _ hx)) h.2]
theorem WishAt.inj {H : Hp} {a : Addr} {w w' : List WP} (h : WishAt H a w) (h' : WishAt H a w') : w = w' := by
 obtain ⟨ps, rfl, e, f⟩ := h
 obtain ⟨qs, rfl, e', f'⟩ := h'
 rw [e] at e'
 simp only [Option.some.injEq, HO.tup.injEq] at e'
 exact zeO ps qs f f' e'
theorem zbB {t u : TS} {D : Ends} {σ : St} {H : Hp} (M : St → Hp → Prop) (h1 : ∀ Z : St → Hp → Prop, (∀ σ' H', M σ' H' → Z σ' H') → t { D with nx := Z } σ H) (h2 : ∀ σ' H', M σ' H' → u D σ' H') : tSeq t u D σ H := h1 (u D) h2
theorem zbj {i : Nat} {v : V} {σ : St} {H : Hp} {Q : St → Hp → Prop} (h : Q (σ.set i (some v)) H) : zfT i v σ H Q := h
theorem WishAt.tyN {H : Hp} {a : Addr} {w : List WP} (h : WishAt H a w) : ∃ xs, H a = some (.tup xs) ∧ xs.length = w.length := by
 obtain ⟨ps, rfl, e, _⟩ := h
 exact ⟨_, e, by simp⟩
structure WsAt (H : Hp) (l : Addr) (ws : List (Addr × List WP)) : Prop where
 at' : H l = some (.lst (ws.map fun x => V.ref x.1))
 ok : ∀ x ∈ ws, WishAt H x.1 x.2 ∧ WOk x.2
 len : ws.length ≤ 800
theorem WsAt.same {H H' : Hp} {l : Addr} {ws : List (Addr × List WP)} (h : WsAt H l ws) (s : Same H H') : WsAt H' l ws := ⟨s _ _ h.at', fun x hx => ⟨(h.ok x hx).1.same s, (h.ok x hx).2⟩, h.len⟩
def zfm : Sp := fun vs H Q _ => ∃ (l : Addr) (ws : List (Addr × List WP)), vs = [.ref l] ∧ WsAt H l ws ∧ ∀ H', Same H H' → Q (.bl true) H'
def zd3 : Sp := fun vs H Q _ => ∃ (l : Addr) (ws : List (Addr × List WP)), vs = [.ref l] ∧ WsAt H l ws ∧ ∀ H', Same H H' → Q .non H'
def zdc (w w' : List WP) : Bool := lexL ltKy (w.map ky) (w'.map ky)
theorem zjQ {a b : Option Int} (h : lpO a = lpO b) : a = b := by
 cases a <;> cases b <;> simp [lpO] at h ⊢
 exact h
theorem zjT {a b : Option Int} (h : hpO a = hpO b) : a = b := by
 cases a <;> cases b <;> simp [hpO] at h ⊢
 exact h
theorem zkH {p q : WP} (h : ky p = ky q) : p = q := by
 obtain ⟨f, lo, hi⟩ := p
 obtain ⟨f', lo', hi'⟩ := q
 unfold ky at h
 simp only [Prod.mk.injEq] at h ⊢
 exact ⟨h.1, zjQ h.2.1, zjT h.2.2⟩
def dyWP (p : WP) : DY := .tup [.str p.1, eD p.2.1, eD p.2.2]
def dyW (w : List WP) : DY := .tup (w.map dyWP)
theorem zdQ {H : Hp} : ∀ ps : List (Addr × WP), (∀ p ∈ ps, H p.1 = some (.tup [.str p.2.1, eV p.2.2.1, eV p.2.2.2])) → (∀ p ∈ ps, p.2.1.length ≤ 8) → RepYs H ((ps.map (·.2)).map dyWP) (ps.map fun p => V.ref p.1)
 | [], _, _ => RepYs.nil
 | p :: ps, h, hl => by
  refine RepYs.cons ?_ (zdQ ps (fun x hx => h x (List.mem_cons_of_mem _ hx)) fun x hx => hl x (List.mem_cons_of_mem _ hx))
  refine zhf (h p List.mem_cons_self) (RepYs.cons ?_ (RepYs.cons (zhh H _) (RepYs.cons (zhh H _) RepYs.nil))) (by simp)
  rw [RepY]
  exact ⟨rfl, Nat.le_trans (hl p List.mem_cons_self) (by decide)⟩
theorem zhg {H : Hp} {a : Addr} {w : List WP} (h : WishAt H a w) (ok : WOk w) : RepY H (dyW w) (.ref a) := by
 obtain ⟨ps, rfl, e, f⟩ := h
 refine zhf e (zdQ ps f fun p hp => ?_) (by have := ok.len; rw [List.length_map] at *; omega)
 exact (ok.ok p.2 (List.mem_map_of_mem hp)).1.eight
theorem zc3 {H : Hp} : ∀ ws : List (Addr × List WP), (∀ x ∈ ws, WishAt H x.1 x.2 ∧ WOk x.2) → RepYs H ((ws.map (·.2)).map dyW) (ws.map fun p => V.ref p.1)
 | [], _ => RepYs.nil
 | x :: ws, h => RepYs.cons (zhg (h x List.mem_cons_self).1 (h x List.mem_cons_self).2) (zc3 ws fun y hy => h y (List.mem_cons_of_mem _ hy))
theorem WsAt.repY {H : Hp} {l : Addr} {ws : List (Addr × List WP)} (h : WsAt H l ws) : RepY H (.lst ((ws.map (·.2)).map dyW)) (.ref l) :=
 zjA h.at' (zc3 ws h.ok) (by have := h.len; rw [List.length_map]; omega)
theorem zhZ (w : List WP) : zaP (dyW w) ≤ 2 := by
 unfold dyW
 rw [zaP]
 have : zbb (w.map dyWP) ≤ 1 := zcY fun d hd => by
  obtain ⟨p, _, rfl⟩ := List.mem_map.mp hd
  unfold dyWP
  simp only [zaP, zbb, ziZ]
  omega
 omega
theorem zbM (ws : List (List WP)) : zaP (.lst (ws.map dyW)) ≤ 3 := by
 rw [zaP]
 have : zbb (ws.map dyW) ≤ 2 := zcY fun d hd => by
  obtain ⟨p, _, rfl⟩ := List.mem_map.mp hd
  exact zhZ p
 omega
abbrev Elt := Sum (Option Int) Str
def ziU : Elt → Value → Bool
 | .inl none, .none => true
 | .inl (some i), v => Value.isInt i v
 | .inr x, v => Value.isStrOf x v
 | _, _ => false
theorem zaN {k : Elt} {v : Value} (h : ziU k v = true) : (k = .inl none ∧ v = .none) ∨ (∃ i t, k = .inl (some i) ∧ v = .int i t) ∨ ∃ x t, k = .inr x ∧ v = .str x t := by
 cases k with
 | inl o =>
  cases o with
  | none => cases v <;> simp [ziU] at h ⊢
  | some i =>
   obtain ⟨t, e⟩ := Value.isInt_shape (k := i) (v := v) h
   exact .inr (.inl ⟨i, t, rfl, e⟩)
 | inr x =>
  obtain ⟨t, e⟩ := Value.isStrOf_shape (x := x) (v := v) h
  exact .inr (.inr ⟨x, t, rfl, e⟩)
def eltH (w : World) : Elt → Int
 | .inl none => 0xFCA86420
 | .inl (some i) => hashInt i
 | .inr x => hashStr w x
section
variable {prog : Program} {w : World} {A : Around} {E : Value → Shared → Prop} {s : Shared}
theorem zhU {Q : Int → Shared → Prop} (h : Q 0xFCA86420 { s with toks := s.toks + 1 }) : wpAny (model prog w) A (pyHash .none) Q E s := by
 have ty : s.TypeIs .none "NoneType" := typeIs_none s
 unfold pyHash
 refine wpAny_bind ?_
 rw [cRoomFor, if_neg (by rw [show [Value.none].any Value.onHeap = false from rfl]; exact Bool.false_ne_true)]
 refine wpAny_pure ?_
 refine wpAny_bind (wpAny_specialOf ty PySem.F.slot_NoneType_hash.lookup ?_)
 rw [if_neg (by rw [beq_builtin_none]; exact Bool.false_ne_true)]
 refine wpAny_bind (wpAny_specialOf ty PySem.F.slot_NoneType_hash.lookup ?_)
 refine wpAny_bind (wpAny_callSpecialIfBoundUnlessNone?_slot ty PySem.F.slot_NoneType_hash (wpAny_call_entry PySem.F.slot_NoneType_hash ty PySem.F.entry_NoneType_hash ?go (PySem.F.args_NoneType_hash_1 _)))
 case go =>
  show wpAny _ _ (do ret (← mkInt 0xFCA86420)) _ _ s
  refine wpAny_ret_mkInt ?_
  dsimp only
  unfold pyHashByItsType.reduced
  rw [if_pos (by decide)]
  exact wpAny_pure h
end
theorem zjY {prog : Program} {w : World} {A : Around} {E : Value → Shared → Prop} {s : Shared} {Q : Bool → Shared → Prop} (h : Q true s) : wpAny (model prog w) A (eqBool .none .none) Q E s := by
 unfold eqBool
 try with_reducible refine wpAny_holding ?_
 rw [if_pos (by rfl)]
 exact wpAny_bind (wpAny_rule (wpAny_pure h))
def zfW (prog : Program) (w : World) : KeyKind prog w Elt where
 is := ziU
 hash := eltH w
 inj := fun v a b ha hb => by
  rcases zaN ha with ⟨rfl, rfl⟩ | ⟨i, t, rfl, rfl⟩ | ⟨x, t, rfl, rfl⟩
  all_goals
   rcases zaN hb with ⟨rfl, e⟩ | ⟨j, u, rfl, e⟩ | ⟨y, u, rfl, e⟩
   all_goals first | rfl | (injection e with e1 _; rw [e1]; done) | (exact Value.noConfusion e)
 byValue := fun k v h => by
  rcases zaN h with ⟨rfl, rfl⟩ | ⟨i, t, rfl, rfl⟩ | ⟨x, t, rfl, rfl⟩ <;> rfl
 pyHash := fun hv h => by
  rcases zaN hv with ⟨rfl, rfl⟩ | ⟨i, t, rfl, rfl⟩ | ⟨x, t, rfl, rfl⟩
  · exact zhU h
  · exact wpAny_pyHash_int h
  · exact wpAny_pyHash_str h
 eqBool := fun hu hv h => by
  rcases zaN hu with ⟨rfl, rfl⟩ | ⟨i, t, rfl, rfl⟩ | ⟨x, t, rfl, rfl⟩
  · rcases zaN hv with ⟨rfl, rfl⟩ | ⟨j, u, rfl, rfl⟩ | ⟨y, u, rfl, rfl⟩
    · rw [decide_eq_true rfl] at h; exact zjY h
    · rw [decide_eq_false (by intro z; cases z)] at h; exact SeqAt.EqAt.none_int j u _ _ _ _ h
    · rw [decide_eq_false (by intro z; cases z)] at h; exact SeqAt.EqAt.none_str y u _ _ _ _ h
  · rcases zaN hv with ⟨rfl, rfl⟩ | ⟨j, u, rfl, rfl⟩ | ⟨y, u, rfl, rfl⟩
    · rw [decide_eq_false (by intro z; cases z)] at h; exact SeqAt.EqAt.int_none i t _ _ _ _ h
    · rw [show decide ((Sum.inl (some i) : Elt) = Sum.inl (some j)) = (i == j) by rw [Bool.eq_iff_iff]; simp] at h; exact wpAny_eqBool_int h
    · rw [decide_eq_false (by intro z; cases z)] at h; exact SeqAt.EqAt.int_str i t y u _ _ _ _ h
  · rcases zaN hv with ⟨rfl, rfl⟩ | ⟨j, u, rfl, rfl⟩ | ⟨y, u, rfl, rfl⟩
    · rw [decide_eq_false (by intro z; cases z)] at h; exact SeqAt.EqAt.str_none x t _ _ _ _ h
    · rw [decide_eq_false (by intro z; cases z)] at h; exact SeqAt.EqAt.str_int x t j u _ _ _ _ h
    · rw [show decide ((Sum.inr x : Elt) = Sum.inr y) = decide (x = y) by rw [Bool.eq_iff_iff]; simp] at h; exact wpAny_eqBool_str h
 «strs» := fun k x t v h => by
  rcases zaN h with ⟨rfl, e⟩ | ⟨i, u, rfl, e⟩ | ⟨y, u, rfl, e⟩
  · exact nomatch e
  · exact nomatch e
  · injection e with e1 _
    subst e1
    cases v <;> rfl
def elP (p : WP) : List Elt := [.inr p.1, .inl p.2.1, .inl p.2.2]
theorem zhW {p q : WP} (h : elP p = elP q) : p = q := by
 obtain ⟨f, a, b⟩ := p
 obtain ⟨g, c, d⟩ := q
 unfold elP at h
 simp only [List.cons.injEq, Sum.inr.injEq, Sum.inl.injEq, and_true] at h
 obtain ⟨rfl, rfl, rfl⟩ := h
 rfl
inductive RefsAre (prog : Program) (w : World) (h : Heap) : List WP → List Value → Prop
 | nil : RefsAre prog w h [] []
 | cons {p : WP} {b : Addr} {ps : List WP} {vs : List Value} : IsTupleKey (zfW prog w) h (elP p) b → RefsAre prog w h ps vs → RefsAre prog w h (p :: ps) (.ref b :: vs)
def IsWishKey (prog : Program) (w : World) (h : Heap) (ws : List WP) (a : Addr) : Prop := ∃ o items n, h.get? a = some o ∧ o.cls = .type "tuple" ∧ o.data = .seq items n ∧ RefsAre prog w h ws items.toList
section
variable {prog : Program} {w : World}
theorem RefsAre.inj {h : Heap} {x y : List WP} {vs : List Value} (hx : RefsAre prog w h x vs) (hy : RefsAre prog w h y vs) : x = y := by
 induction hx generalizing y with
 | nil => cases hy; rfl
 | cons h1 _ ih =>
  cases hy with
  | cons h2 t2 => rw [zhW (h1.inj h2), ih t2]
theorem RefsAre.keeps {h h' : Heap} {d : Addr} {o : Obj} {es : Array DictEntry} {ep : Nat} {x : List WP} {vs : List Value} (hx : RefsAre prog w h x vs) (ho : h.get? d = some o) (hd : o.data = .dict es ep) (hs : Heap.SameBut d h h') : RefsAre prog w h' x vs := by
 induction hx with
 | nil => exact .nil
 | cons h1 _ ih => exact .cons (h1.keeps ho hd hs) ih
theorem IsWishKey.typeIs {s : Shared} {ws : List WP} {a : Addr} (x : IsWishKey prog w s.heap ws a) : s.TypeIs (.ref a) "tuple" := let ⟨o, _, _, ho, hc, _⟩ := x; ⟨o, ho, hc⟩
theorem IsWishKey.inj {h : Heap} {a : Addr} {x y : List WP} (hx : IsWishKey prog w h x a) (hy : IsWishKey prog w h y a) : x = y := by
 obtain ⟨o, items, n, ho, _, hd, hi⟩ := hx
 obtain ⟨o', items', n', ho', _, hd', hi'⟩ := hy
 rw [ho] at ho'
 cases ho'
 rw [hd] at hd'
 injection hd' with h1 _
 subst h1
 exact hi.inj hi'
theorem IsWishKey.keeps {h h' : Heap} {ws : List WP} {a d : Addr} {o : Obj} {es : Array DictEntry} {ep : Nat} (x : IsWishKey prog w h ws a) (ho : h.get? d = some o) (hd : o.data = .dict es ep) (hs : Heap.SameBut d h h') : IsWishKey prog w h' ws a := by
 obtain ⟨o', items, n, ho', hc, hd', hi⟩ := x
 have hne : a ≠ d := fun e => by
  subst e
  rw [ho] at ho'
  cases ho'
  rw [hd] at hd'
  exact nomatch hd'
 exact ⟨o', items, n, (hs.2 a hne).trans ho', hc, hd', hi.keeps ho hd hs⟩
def zjJ (w : World) (p : WP) : Int := reduceHash (Builtin.Tuple.tupleHashOf ((elP p).map (eltH w)))
def zjo (w : World) (ws : List WP) : Int := reduceHash (Builtin.Tuple.tupleHashOf (ws.map (zjJ w)))
variable {A : Around} {E : Value → Shared → Prop} {s : Shared}
theorem zhT {p : WP} {b : Addr} {Q : Int → Shared → Prop} (hu : A.units < cLine) (hk : IsTupleKey (zfW prog w) s.heap (elP p) b) (h : Q (zjJ w p) { s with toks := s.toks + 4 }) : wpAny (model prog w) A (pyHash (.ref b)) Q E s :=
 wpAny_pyHash_tuple hu hk h
theorem zhS {ws : List WP} {a : Addr} {Q : Int → Shared → Prop} (hu : A.units + 1 < cLine) (hk : IsWishKey prog w s.heap ws a) (h : Q (zjo w ws) { s with toks := s.toks + (4 * ws.length + 1) }) :
 wpAny (model prog w) A (pyHash (.ref a)) Q E s := by
 have ty := hk.typeIs
 obtain ⟨o, items, n, ho, _, hd, hi⟩ := hk
 unfold pyHash
 first | unfold pyHashByItsType | skip
 first | refine wpAny_bind (wpAny_cRoomFor_or (.inr (by omega)) ?_) | skip
 refine wpAny_bind (wpAny_specialOf ty PySem.F.slot_tuple_hash.lookup ?_)
 rw [if_neg (by rw [beq_builtin_none]; exact Bool.false_ne_true)]
 refine wpAny_bind (wpAny_specialOf ty PySem.F.slot_tuple_hash.lookup ?_)
 refine wpAny_bind (wpAny_callSpecialIfBoundUnlessNone?_slot ty PySem.F.slot_tuple_hash (wpAny_call_entry PySem.F.slot_tuple_hash ty PySem.F.entry_tuple_hash ?go (PySem.F.args_tuple_hash_1 _)))
 case go =>
  show wpAny _ _ (Builtin.Tuple.tupleItemsOf (.ref a) >>= _) _ _ s
  refine wpAny_bind (wpAny_tupleItemsOf ho hd (wpAny_bind ?_))
  rw [← Array.forIn_toList]
  refine wpAny_forIn_list _ (fun rest (b : Array Int) s' => ∃ done left, ws = done ++ left ∧ RefsAre prog w s.heap left rest ∧ b.toList = done.map (zjJ w) ∧ s' = { s with toks := s.toks + 4 * done.length }) _ ?step ?done _ _ ⟨[], ws, rfl, hi, rfl, rfl⟩
  case step =>
   rintro x rest b s' ⟨dn, left, rfl, hl, hb, rfl⟩
   cases hl with
   | @cons p c ps _ h1 hl' =>
    refine wpAny_bind (zhT (p := p) (by show A.units + 1 < cLine; exact hu) (by exact h1) ?_)
    first
     | exact wpAny_pure ⟨dn ++ [p], ps, by simp, hl', by simp [hb], by simp; omega⟩
     | exact wpAny_bind (wpAny_pure (wpAny_pure ⟨dn ++ [p], ps, by simp, hl', by simp [hb], by simp; omega⟩))
  case done =>
   rintro b s' ⟨dn, left, rfl, hl, hb, rfl⟩
   cases hl
   rw [List.append_nil] at h
   show wpAny _ _ (retInt (Builtin.Tuple.tupleHashOf b.toList)) _ _ _
   rw [hb]
   refine wpAny_ret_mkInt ?_
   unfold zjo reduceHash at h
   dsimp only
   unfold pyHashByItsType.reduced
   split at h
   · rename_i hr
     rw [if_pos hr]
     exact wpAny_pure (by simpa [Nat.add_assoc] using h)
   · rename_i hr
     rw [if_neg hr]
     exact wpAny_bind (wpAny_rule (wpAny_pure (by simpa [Nat.add_assoc] using h)))
theorem zjX {x y : List WP} {a b : Addr} {P : Fin → Shared → Prop} (hu : A.units < cLine) (hx : IsWishKey prog w s.heap x a) (hy : IsWishKey prog w s.heap y b) (h : P (.done (.ret (.bool (decide (x = y))))) s) :
 wpAny (model prog w) A (Builtin.«tuple.__eq__» ⟨[.ref a, .ref b], []⟩) P E s := by
 have tb := hy.typeIs
 obtain ⟨oa, us, na, g1, _, g2, g3⟩ := hx
 obtain ⟨ob, vs, nb, k1, _, k2, k3⟩ := hy
 show wpAny _ _ (isInstance (.ref b) (.type "tuple") >>= _) _ _ s
 refine wpAny_bind (wpAny_isInstance tb isSubtype_tuple_tuple ?_)
 simp only [Bool.not_true, Bool.false_eq_true, if_false]
 refine wpAny_bind (wpAny_tupleItemsOf g1 g2 (wpAny_bind (wpAny_tupleItemsOf k1 k2 (wpAny_bind ?_))))
 refine wpAny_forIn_list _
  (fun rest r s' => r.1 = none ∧ s' = s ∧ ∃ x' y' us' vs', rest = List.zip us' vs' ∧ RefsAre prog w s.heap x' us' ∧ RefsAre prog w s.heap y' vs' ∧ decide (x' = y') = decide (x = y) ∧ (us'.length == vs'.length) = (us.size == vs.size))
  _ ?step ?done _ _ ⟨rfl, rfl, x, y, us.toList, vs.toList, rfl, g3, k3, rfl, by simp⟩
 case step =>
  rintro ⟨u, v⟩ rest r s' ⟨hr, rfl, x', y', us', vs', hz, q1, q2, hdec, hlen⟩
  cases q1 with
  | nil => simp at hz
  | @cons p c ps us'' c1 q1' =>
   cases q2 with
   | nil => simp at hz
   | @cons p2 c' ps2 vs'' c2 q2' =>
    simp only [List.zip_cons_cons, List.cons.injEq, Prod.mk.injEq] at hz
    obtain ⟨⟨rfl, rfl⟩, rfl⟩ := hz
    refine wpAny_bind (wpAny_eqBool_tuple hu c1 c2 ?_)
    by_cases hk : p = p2
    · subst hk
      rw [decide_eq_true rfl]
      simp only [Bool.not_true, Bool.false_eq_true, if_false]
      refine wpAny_pure ⟨rfl, rfl, ps, ps2, us'', vs'', rfl, q1', q2', ?_, by simpa using hlen⟩
      rw [← hdec]
      by_cases e : ps = ps2 <;> simp [e]
    · rw [decide_eq_false (fun z => hk (zhW z))]
      simp only [Bool.not_false, if_true]
      rw [show decide (x = y) = false by rw [← hdec]; simp [hk]] at h
      exact wpAny_bind (wpAny_pure (wpAny_pure (wpAny_pure h)))
 case done =>
  rintro ⟨r1, r2⟩ s' ⟨hr, rfl, x', y', us', vs', hz, q1, q2, hdec, hlen⟩
  simp only at hr
  subst hr
  refine wpAny_pure ?_
  have fin : (us.size == vs.size) = decide (x = y) := by
   rw [← hdec, ← hlen]
   cases q1 with
   | nil => cases q2 <;> simp
   | cons _ _ =>
    cases q2 with
    | nil => simp
    | cons _ _ => simp at hz
  show P (.done (.ret (.bool (us.size == vs.size)))) s'
  rw [fin]
  exact h
theorem zjW {x y : List WP} {a b : Addr} {Q : Bool → Shared → Prop} (hu : A.units + 1 < cLine) (hx : IsWishKey prog w s.heap x a) (hy : IsWishKey prog w s.heap y b) (h : Q (decide (x = y)) s) :
 wpAny (model prog w) A (eqBool (.ref a) (.ref b)) Q E s := by
 unfold eqBool
 try with_reducible refine wpAny_holding ?_
 by_cases hab : (Value.ref a == Value.ref b) = true
 · rw [if_pos hab]
   have e : a = b := by have := eq_of_beq hab; injection this
   subst e
   obtain rfl := hx.inj hy
   exact wpAny_bind (wpAny_rule (wpAny_pure (by simpa using h)))
 · rw [if_neg hab]
   refine wpAny_bind (wpAny_richCompare_same_room (op := .Eq) hx.typeIs hy.typeIs PySem.F.slot_tuple_eq
    (wpAny_call_entry PySem.F.slot_tuple_eq hx.typeIs PySem.F.entry_tuple_eq (zjX (by show A.units + 1 < cLine; exact hu) hx hy ⟨_, rfl, (fun e => nomatch e), wpAny_truthy_bool h⟩) (PySem.F.args_tuple_eq_2 _ _)) (by omega))
theorem zgA {p : WP} {b : Addr} {n : Nat} {Q : Bool → Shared → Prop} (hk : IsTupleKey (zfW prog w) s.heap (elP p) b) (h : Q true s) : wpAny (model prog w) A (eqIsQuiet (n + 1) (.ref b)) Q E s := by
 have ty := hk.typeIs
 obtain ⟨o, its, m, h1, _, h2, h3⟩ := hk
 unfold eqIsQuiet
 refine wpAny_bind (wpAny_specialOf ty PySem.F.slot_tuple_eq.lookup ?_)
 show wpAny _ _ (isInstance (.ref b) (.type "tuple") >>= _) _ _ s
 refine wpAny_bind (wpAny_isInstance ty isSubtype_tuple_tuple ?_)
 simp only [Bool.not_true, Bool.false_eq_true, if_false]
 refine wpAny_bind (wpAny_seqItems h1 h2 (wpAny_bind ?_))
 show wpAny _ _ (forIn its _ _) _ _ s
 rw [← Array.forIn_toList]
 refine wpAny_forIn_list _ (fun rest r s' => r.1 = none ∧ s' = s ∧ ∀ v ∈ rest, carriedByValue v = true) _ ?step ?done _ _ ⟨rfl, rfl, h3.byValue⟩
 case step =>
  rintro v rest r s' ⟨hr, rfl, al⟩
  rw [eqIsQuiet_byValue _ (al v List.mem_cons_self)]
  refine wpAny_bind (wpAny_pure ?_)
  simp only [Bool.not_true, Bool.false_eq_true, if_false]
  exact wpAny_pure ⟨rfl, rfl, fun u hu' => al u (List.mem_cons_of_mem _ hu')⟩
 case done =>
  rintro ⟨r1, r2⟩ s' ⟨hr, rfl, _⟩
  simp only at hr
  subst hr
  exact wpAny_pure h
theorem zgz {ws : List WP} {a : Addr} {Q : Bool → Shared → Prop} (hk : IsWishKey prog w s.heap ws a) (h : Q true s) : wpAny (model prog w) A (eqIsQuiet 8 (.ref a)) Q E s := by
 have ty := hk.typeIs
 obtain ⟨o, its, m, h1, _, h2, h3⟩ := hk
 unfold eqIsQuiet
 refine wpAny_bind (wpAny_specialOf ty PySem.F.slot_tuple_eq.lookup ?_)
 show wpAny _ _ (isInstance (.ref a) (.type "tuple") >>= _) _ _ s
 refine wpAny_bind (wpAny_isInstance ty isSubtype_tuple_tuple ?_)
 simp only [Bool.not_true, Bool.false_eq_true, if_false]
 refine wpAny_bind (wpAny_seqItems h1 h2 (wpAny_bind ?_))
 show wpAny _ _ (forIn its _ _) _ _ s
 rw [← Array.forIn_toList]
 refine wpAny_forIn_list _ (fun rest r s' => r.1 = none ∧ s' = s ∧ ∃ ws', RefsAre prog w s.heap ws' rest) _ ?step ?done _ _ ⟨rfl, rfl, ws, h3⟩
 case step =>
  rintro v rest r s' ⟨hr, rfl, ws', hl⟩
  cases hl with
  | @cons p c ps _ c1 hl' =>
   refine wpAny_bind (zgA c1 ?_)
   simp only [Bool.not_true, Bool.false_eq_true, if_false]
   exact wpAny_pure ⟨rfl, rfl, ps, hl'⟩
 case done =>
  rintro ⟨r1, r2⟩ s' ⟨hr, rfl, _⟩
  simp only at hr
  subst hr
  exact wpAny_pure h
end
def zcA (prog : Program) (w : World) : HeapKind prog w (List WP) where
 is := IsWishKey prog w
 hash := zjo w
 draws := fun ws => 4 * ws.length + 1
 room := fun A => A.units + 1 < cLine
 inj := fun hx hy => hx.inj hy
 keeps := fun x ho hd hs => x.keeps ho hd hs
 pyHash := fun hu hk h => zhS hu hk h
 eqBool := fun hu hx hy h => zjW hu hx hy h
 quiet := fun hk h => zgz hk h
theorem zf7 {P : Program} {w : World} {H : Hp} {h : Heap} {a : Addr} {ws : List WP} (hok : HOk P w H h) (e : WishAt H a ws) : IsWishKey P w h ws a := by
 obtain ⟨ps, rfl, hA, hP⟩ := e
 obtain ⟨_, its, rv, o, h1, h2, _, n, h3⟩ := (show ObjOk P w H h a (.tup (ps.map fun p => V.ref p.1)) from hok a _ hA)
 refine ⟨o, its.toArray, n, h1, h2, h3, ?_⟩
 rw [List.toList_toArray]
 clear hA h1 h3
 induction ps generalizing its with
 | nil => cases rv; exact .nil
 | cons p ps ih =>
  rw [List.map_cons] at rv
  cases rv with
  | @cons _ u _ us r1 r2 =>
   cases r1
   refine .cons ?_ (ih (fun x hx => hP x (List.mem_cons_of_mem _ hx)) (by rename_i hz; rw [List.map_cons, List.length_cons] at hz; omega) us r2)
   obtain ⟨_, it2, rv2, o2, k1, k2, _, m, k3⟩ := (show ObjOk P w H h p.1 (.tup [V.str p.2.1, eV p.2.2.1, eV p.2.2.2]) from hok p.1 _ (hP p List.mem_cons_self))
   refine ⟨o2, it2.toArray, m, k1, k2, k3, ?_⟩
   rw [List.toList_toArray]
   have end_is : ∀ (e : Option Int) (v : Value), RelV (eV e) v → ziU (.inl e) v = true := fun e v r => by
    cases e with
    | none => cases (show v = Value.none from r); rfl
    | some i => obtain ⟨t, rfl⟩ := (show ∃ t, v = Value.int i t from r); exact zeW i t
   cases rv2 with
   | @cons _ u1 _ _ a1 rv2 =>
    cases rv2 with
    | @cons _ u2 _ _ a2 rv2 =>
     cases rv2 with
     | @cons _ u3 _ _ a3 rv2 =>
      cases rv2
      obtain ⟨t, rfl⟩ := (show ∃ t, u1 = Value.str p.2.1 t from a1)
      exact .cons (zeV _ t) (.cons (end_is _ _ a2) (.cons (end_is _ _ a3) .nil))
def KeyRow (h : Heap) (d : Addr) (as : List Addr) (ep : Nat) : Prop := ∃ o es, h.get? d = some o ∧ o.ExactDict ∧ o.data = .dict es ep ∧ es.toList.map (·.key) = as.map Value.ref
theorem KeyRow.at' {h h' : Heap} {d : Addr} {as : List Addr} {ep : Nat} (x : KeyRow h d as ep) (k : ∀ o, h.get? d = some o → h'.get? d = some o) : KeyRow h' d as ep := let ⟨o, es, ho, r⟩ := x; ⟨o, es, k o ho, r⟩
theorem KeyRow.typeIs {s : Shared} {d : Addr} {as : List Addr} {ep : Nat} (x : KeyRow s.heap d as ep) : s.TypeIs (.ref d) "dict" := let ⟨o, _, ho, hc, _⟩ := x; ⟨o, ho, hc.1⟩
theorem KeyRow.size {h : Heap} {d : Addr} {as : List Addr} {ep : Nat} {es : Array DictEntry} (e : es.toList.map (·.key) = as.map Value.ref) : es.size = as.length := by have := congrArg List.length e; simpa using this
section
variable {prog : Program} {w : World} {A : Around} {E : Value → Shared → Prop} {s : Shared} {it d : Addr} {i ep : Nat} {as : List Addr}
theorem ziQ {Q : Value → Shared → Prop} (hd : (d == sysModules) = false) (R : KeyRow s.heap d as ep)
 (q : Q (.ref s.heap.objs.size) { s with heap := s.heap.push { cls := .type "dict_keyiterator", data := .fields #[.ref d, .int 0 0, .int as.length 0, .int ep 0] } }) : wpAny (model prog w) A (pyIter (.ref d)) Q E s := by
 have ty := R.typeIs
 obtain ⟨o, es, h1, h2, h3, h4⟩ := R
 refine wpAny_pyIter_slot ty PySem.F.slot_dict_iter (wpAny_call_entry PySem.F.slot_dict_iter ty PySem.F.entry_dict_iter ?go (PySem.F.args_dict_iter_1 _))
 case go =>
  unfold Builtin.«dict.__iter__» Builtin.Dict.dictSlotNone
  refine wpAny_bind (wpAny_bind (wpAny_notOrdered_dict ty ?_))
  refine wpAny_pure ?_
  show wpAny _ _ (Builtin.Dict.showsAll d >>= _) _ _ s
  unfold Builtin.Dict.showsAll
  rw [if_neg (by rw [hd]; exact Bool.false_ne_true)]
  refine wpAny_bind (wpAny_pure (wpAny_bind (wpAny_dictEntries h1 h3 (wpAny_bind (wpAny_dictEpoch h1 h3 ?_)))))
  refine wpAny_bind (wpAny_newObj_type (wpAny_pure ⟨_, rfl, "dict_keyiterator", _, ⟨_, Heap.get?_push_size _ rfl, rfl⟩, PySem.F.slot_dict_keyiterator_next.lookup, ?_⟩))
  simpa [rawInt, KeyRow.size (h := s.heap) (d := d) (ep := ep) h4] using q
theorem ziJ {a : Addr} {Q : Option Value → Shared → Prop} (hi : s.heap.IsKeyIter it d i as.length ep) (R : KeyRow s.heap d as ep) (ha : as[i]? = some a)
 (q : ∀ h', h'.IsKeyIter it d (i + 1) as.length ep → Heap.SameBut it s.heap h' → Q (some (.ref a)) { s with heap := h' }) : wpAny (model prog w) A (pyNext (.ref it)) Q E s := by
 obtain ⟨o, g1, g2, g3⟩ := id hi
 obtain ⟨od, es, h1, h2, h3, h4⟩ := R
 have sz : es.size = as.length := KeyRow.size (h := s.heap) (d := d) (ep := ep) h4
 have lt : i < es.size := by rw [sz]; exact (List.getElem?_eq_some_iff.mp ha).1
 have ky : es[i].key = .ref a := by
  have h5 : (es.toList.map (·.key))[i]? = some es[i].key := by rw [List.getElem?_map]; simp [lt]
  rw [h4, List.getElem?_map, ha] at h5
  exact (Option.some.inj h5).symm
 unfold pyNext
 refine wpAny_bind (wpAny_attempt (wpAny_callSpecial?_slot (name := Str.ofString "__next__") hi.typeIs PySem.F.slot_dict_keyiterator_next (wpAny_call_entry PySem.F.slot_dict_keyiterator_next hi.typeIs PySem.F.entry_dict_keyiterator_next ?go (PySem.F.args_dict_keyiterator_next_1 _))))
 case go =>
  refine wpAny_bind (wpAny_pure (wpAny_bind (wpAny_bind ?_)))
  first | refine wpAny_bind (wpAny_typeNameOfWhole_keyiter hi.typeIs (wpAny_pure ?_)) | refine wpAny_bind (wpAny_typeNameOf_keyiter hi.typeIs (wpAny_pure ?_))
  refine wpAny_bind (wpAny_fieldsOf g1 g3 ?_)
  simp only [show Builtin.Dict_items.ownsTuple "dict_keyiterator" = false by decide, Bool.false_eq_true, if_false]
  show wpAny _ _ (if (Value.ref d == Value.none) = true then _ else _) _ _ s
  rw [if_neg (by intro z; cases z)]
  refine wpAny_bind (wpAny_pure (wpAny_bind (wpAny_dictEntries h1 h3 ?_)))
  rw [if_neg (by rw [sz]; simp)]
  refine wpAny_bind (wpAny_pure (wpAny_bind (wpAny_dictEpoch h1 h3 ?_)))
  rw [if_neg (by simp)]
  refine wpAny_pure ?_
  simp only [show ¬ ((i : Int) < 0) by omega, if_false, Int.toNat_natCast, Array.getElem?_eq_getElem lt]
  refine wpAny_bind ?_
  first | refine wpAny_bind (wpAny_typeNameOfWhole_keyiter hi.typeIs (wpAny_pure ?_)) | refine wpAny_bind (wpAny_typeNameOf_keyiter hi.typeIs (wpAny_pure ?_))
  refine wpAny_bind (wpAny_isOneOf_keyiter hi.typeIs ?_)
  show wpAny _ _ (setField (.ref it) 1 (rawInt ((i : Int) + 1)) >>= _) _ _ s
  refine wpAny_bind (wpAny_setField g1 g3 (by simp) ?_)
  have hi' : (s.heap.update it (Obj.mapFields (·.setIfInBounds 1 (rawInt ((i : Int) + 1))))).IsKeyIter it d (i + 1) as.length ep :=
   ⟨_, Heap.get?_update_self _ g1 (Obj.isFreed_of_fields (Obj.data_mapFields g3 _)), (Obj.cls_mapFields ..).trans g2, by rw [Obj.data_mapFields g3]; simp [rawInt]⟩
  refine wpAny_bind (wpAny_holding (wpAny_bind (wpAny_isOneOf_keyiter (s := { s with heap := s.heap.update it (Obj.mapFields (·.setIfInBounds 1 (rawInt ((i : Int) + 1)))) }) hi'.typeIs ?_)))
  show wpAny _ _ (pure es[i].key) _ _ _
  rw [ky]
  exact wpAny_pure (wpAny_pure ⟨_, rfl, wpAny_pure (q _ hi' (Heap.SameBut.update ..))⟩)
theorem zjZ {Q : Option Value → Shared → Prop} (hh : A.handled = none) (hi : s.heap.IsKeyIter it d i as.length ep) (R : KeyRow s.heap d as ep) (ha : as.length ≤ i)
 (q : ∀ h', Heap.ExtBut it s.heap h' → Q none { s with heap := h' }) : wpAny (model prog w) A (pyNext (.ref it)) Q E s := by
 obtain ⟨o, g1, g2, g3⟩ := id hi
 obtain ⟨od, es, h1, h2, h3, h4⟩ := R
 have sz : es.size = as.length := KeyRow.size (h := s.heap) (d := d) (ep := ep) h4
 unfold pyNext
 refine wpAny_bind (wpAny_attempt (wpAny_callSpecial?_slot (name := Str.ofString "__next__") hi.typeIs PySem.F.slot_dict_keyiterator_next (wpAny_call_entry PySem.F.slot_dict_keyiterator_next hi.typeIs PySem.F.entry_dict_keyiterator_next ?go (PySem.F.args_dict_keyiterator_next_1 _))))
 case go =>
  refine wpAny_bind (wpAny_pure (wpAny_bind (wpAny_bind ?_)))
  first | refine wpAny_bind (wpAny_typeNameOfWhole_keyiter hi.typeIs (wpAny_pure ?_)) | refine wpAny_bind (wpAny_typeNameOf_keyiter hi.typeIs (wpAny_pure ?_))
  refine wpAny_bind (wpAny_fieldsOf g1 g3 ?_)
  simp only [show Builtin.Dict_items.ownsTuple "dict_keyiterator" = false by decide, Bool.false_eq_true, if_false]
  show wpAny _ _ (if (Value.ref d == Value.none) = true then _ else _) _ _ s
  rw [if_neg (by intro z; cases z)]
  refine wpAny_bind (wpAny_pure (wpAny_bind (wpAny_dictEntries h1 h3 ?_)))
  rw [if_neg (by rw [sz]; simp)]
  refine wpAny_bind (wpAny_pure (wpAny_bind (wpAny_dictEpoch h1 h3 ?_)))
  rw [if_neg (by simp)]
  refine wpAny_pure ?_
  simp only [show ¬ ((i : Int) < 0) by omega, if_false, Int.toNat_natCast, Array.getElem?_eq_none (show es.size ≤ i by omega)]
  refine wpAny_bind ?_
  first | refine wpAny_bind (wpAny_typeNameOfWhole_keyiter hi.typeIs (wpAny_pure ?_)) | refine wpAny_bind (wpAny_typeNameOf_keyiter hi.typeIs (wpAny_pure ?_))
  show wpAny _ _ (setField (.ref it) 0 .none >>= _) _ _ s
  refine wpAny_bind (wpAny_setField g1 g3 (by simp) ?_)
  show wpAny _ _ (newExc (Value.type "StopIteration") [] >>= _) _ _ _
  refine wpAny_bind ?_
  unfold newExc newTuple
  refine wpAny_bind (wpAny_newObj_type ?_ (by size_fits))
  refine wpAny_bind (m := firstArgMember _ _) (wpAny_of_eq (a := Value.none) (by first | rfl | (simp only [firstArgMember]; rfl)) ?_)
  refine wpAny_newObj_type ?_ (by size_fits)
  unfold raiseNew
  refine wpAny_bind (wpAny_handled ?_)
  rw [show A.in1.handled = none from hh]
  refine wpAny_bind (wpAny_pure (wpAny_throw ?_))
  refine wpAny_bind (wpAny_isInstance (T := "StopIteration") (b := true) ⟨_, Heap.get?_push_size _ rfl, rfl⟩ isSubtype_stop ?_)
  exact wpAny_pure (q _ (((Heap.SameBut.update ..).extBut.push _).push _))
end
def za1 (d : Addr) (as : List Addr) (ep : Nat) : Heap → Prop := fun h => (d == sysModules) = false ∧ KeyRow h d as ep
def zkY (H : Hp) (d : Addr) (ks : List (Addr × List WP)) : Prop := (∃ ep, H d = some (.ext (za1 d (ks.map (·.1)) ep))) ∧ ∀ k ∈ ks, WishAt H k.1 k.2
def Itw (a : Addr) (as : List Addr) (ep : Nat) : It :=
 ⟨fun i H => i < as.length ∧ H a = some (.ext (za1 a as ep)), fun i H x H' => H' = H ∧ ∃ f, as[i]? = some f ∧ x = .ref f, fun i H => as.length ≤ i ∧ H a = some (.ext (za1 a as ep))⟩
theorem zim {P : Program} {w : World} {K : PySem.W.Frag} {tg : Expr} (a it : Addr) (as : List Addr) (ep : Nat) : Turn P w K tg (Itw a as ep) [it] it (fun i h => h.IsKeyIter it a i as.length ep) where
 mem := by simp
 obj := fun i h st b hb => by
  have e : b = it := by simpa using hb
  subst e
  obtain ⟨o, e, c, d⟩ := st
  exact ⟨o, e, fun v z => by rw [d] at z; cases z⟩
 keep := fun i h h' st k => let ⟨o, e, r⟩ := st; ⟨o, k it (by simp) o e, r⟩
 item := by
  intro X hP hw hK hc i pins s σ H E I hfp st hg
  subst hP hw hK
  obtain ⟨hi, hH⟩ := hg
  have R := (show ObjOk X.prog X.w H s.heap a (.ext (za1 a as ep)) from I.hok a _ hH).1.2
  obtain ⟨f0, f1, f2, f3, f4, f5⟩ := hfp it (by simp)
  have ha : as[i]? = some as[i] := by simp
  refine ziJ st R ha fun h' hit' hs' => ?_
  have I1 : Inv X pins σ H { s with heap := h' } := I.turned (t' := s.toks) (fun b o hb e => hs'.extBut b o hb e) f0 f1 f3 f4 f5
  obtain ⟨o2, e, c, d⟩ := id hit'
  exact ⟨_, rfl, zgN (s := { s with heap := h' }) e c d (by decide) ⟨.ref as[i], H, I1, rfl, ⟨rfl, _, ha, rfl⟩, hit', fun b hb => (hfp b hb).1⟩⟩
 done := by
  intro X hP hw hK hc i pins s σ H E I hfp st hg
  subst hP hw hK
  obtain ⟨hi, hH⟩ := hg
  have R := (show ObjOk X.prog X.w H s.heap a (.ext (za1 a as ep)) from I.hok a _ hH).1.2
  obtain ⟨f0, f1, f2, f3, f4, f5⟩ := hfp it (by simp)
  exact zjZ (I.ok.hd hc) st R hi fun h' eb => ⟨rfl, I.turned (t' := s.toks) (fun b o hb e => eb b o hb e) f0 f1 f3 f4 f5⟩
 self := fun _ _ _ _ _ st h => wpAny_pyIter_keyiter st h
section
variable {X : Cx} {tg : Expr}
def iRow (tl : TE) : TI := fun σ H R => tl σ H fun x H1 => ∃ (a : Addr) (as : List Addr) (ep : Nat), x = .ref a ∧ H1 a = some (.ext (za1 a as ep)) ∧ R (Itw a as ep) H1
theorem zjb {l : Expr} {tl : TE} (hl : PE X l tl) : PI X tg l (iRow tl) := by
 intro pins s σ H R I h
 refine thn (hl pins s σ H _ I h) fun v s1 ⟨x, H1, I1, r1, q1⟩ => ?_
 obtain ⟨a, as, ep, e, hH, q⟩ := q1
 subst e
 cases r1
 have R := (show ObjOk X.prog X.w H1 s1.heap a (.ext (za1 a as ep)) from I1.hok a _ hH).1
 refine ziQ R.1 R.2 ?_
 refine ⟨s1.heap.objs.size, [s1.heap.objs.size], _, _, H1, rfl, I1.kept (t' := s1.toks) fun b o e => Heap.get?_push_of_some _ e, zim a _ as ep, ⟨_, Heap.get?_push_size _ rfl, rfl, rfl⟩, fun b hb => ?_, q⟩
 have e : b = s1.heap.objs.size := by simpa using hb
 subst e
 exact I1.fpOk (Nat.le_refl _) (I1.hok.fresh (Nat.le_refl _))
end
theorem zkF {a p : Addr} {as : List Addr} {ep : Nat} {g : TG} {tc : TT} {te : TE} {σ : St} {H : Hp} {Q : VK} {js : Cap} (Pv : Nat → St → List V → Hp → Prop) (h0 : Pv 0 (inn js σ) [] (upd H p (.lst [])))
 (hl : ∀ i σ ys H, i ≤ as.length → Pv i σ ys H → H a = some (.ext (za1 a as ep)) ∧ H p = some (.lst ys) ∧ ys.length < sizeLine)
 (hs : ∀ (i : Nat) x σ ys H (N : St → List V → Hp → Prop), as[i]? = some x → Pv i σ ys H → (∀ σ' ys' H', Pv (i + 1) σ' ys' H' → N σ' ys' H') → zdK p g tc te ys (.ref x) σ H N)
 (hd : ∀ σ ys H, Pv as.length σ ys H → Q (.ref p) H) : zcw (Itw a as ep) p js g tc te σ H Q :=
 zdT (n := as.length) (J := Itw a as ep) (js := js) (σ := σ) (H := H) (p := p) (Q := Q) (g := g) (tc := tc) (te := te) Pv h0 (fun i σ ys H hi pv => (hl i σ ys H hi pv).2)
  (fun i σ ys H hi pv => ⟨hi, (hl i σ ys H (Nat.le_of_lt hi) pv).1⟩) (fun σ ys H pv => ⟨Nat.le_refl _, (hl _ σ ys H (Nat.le_refl _) pv).1⟩)
  (fun i x σ ys H H' N hi y pv hN => by
   obtain ⟨rfl, f, hf, rfl⟩ := y
   exact hs i f σ ys _ N hf pv hN) hd
theorem zjU {a : Addr} {as : List Addr} {ep : Nat} {g : TG} {tb : TS} {D : Ends} {σ : St} {H : Hp} (Pv : Nat → St → Hp → Prop) (h0 : Pv 0 σ H) (hl : ∀ i σ H, i ≤ as.length → Pv i σ H → H a = some (.ext (za1 a as ep)))
 (hs : ∀ i x σ H, as[i]? = some x → Pv i σ H → g (.ref x) σ H fun σ2 H2 => tb { D with nx := Pv (i + 1), ct := Pv (i + 1), bk := D.nx } σ2 H2) (hd : ∀ σ H, Pv as.length σ H → D.nx σ H) :
 ∃ W : Nat → Nat → St → Hp → Prop, (∃ m, W 0 m σ H) ∧ ∀ i m σ H, W i m σ H →
  ((Itw a as ep).stop i H ∧ D.nx σ H) ∨ ((Itw a as ep).go i H ∧ ∃ N : St → Hp → Prop, (∀ σ' H', N σ' H' → ∃ m', m' < m ∧ W (i + 1) m' σ' H') ∧ ∀ x H', (Itw a as ep).yld i H x H' → g x σ H' fun σ2 H2 => tb { D with nx := N, ct := N, bk := D.nx } σ2 H2) := by
 refine ⟨fun i m σ H => m = as.length - i ∧ i ≤ as.length ∧ Pv i σ H, ⟨as.length, by simp, Nat.zero_le _, h0⟩, ?_⟩
 rintro i m σ H ⟨rfl, hi, p⟩
 have q := hl i σ H hi p
 by_cases hlt : i < as.length
 · refine .inr ⟨⟨hlt, q⟩, Pv (i + 1), fun σ' H' p' => ⟨as.length - (i + 1), by omega, rfl, hlt, p'⟩, fun x H' y => ?_⟩
   obtain ⟨rfl, f, hf, rfl⟩ := y
   exact hs i f σ _ hf p
 · have e : i = as.length := by omega
   subst e
   exact .inl ⟨⟨Nat.le_refl _, q⟩, hd σ H p⟩
def kx3 (k : Addr × List WP) : List WP × Addr × Value := (k.2, k.1, .bool true)
def wPhi (P : Program) (w : World) (d : Addr) (ks : List (Addr × List WP)) : Heap → Prop := fun h => (d == sysModules) = false ∧ ∃ o es ep, h.get? d = some o ∧ o.ExactDict ∧ o.data = .dict es ep ∧ es.toList = (ks.map kx3).map (entryOfKey (zcA P w)) ∧ ((ks.map kx3).map (·.1)).Nodup
def putW (ks : List (Addr × List WP)) (a : Addr) (w : List WP) : List (Addr × List WP) := if (ks.any fun k => decide (k.2 = w)) = true then ks else ks ++ [(a, w)]
section
variable {P : Program} {w : World} {H : Hp} {h : Heap} {d : Addr} {ks : List (Addr × List WP)}
theorem zhV {P' : Program} {w' : World} (x : wPhi P w d ks h) : ObjOk P' w' H h d (.ext (wPhi P w d ks)) := ⟨x, let ⟨_, o, _, _, e, _⟩ := x; ⟨o, e⟩, fun h1 h2 ⟨y, o, es, ep, e, r⟩ k => ⟨y, o, es, ep, k o e, r⟩⟩
theorem zjV {as : List Addr} {ep : Nat} (x : za1 d as ep h) : ObjOk P w H h d (.ext (za1 d as ep)) := ⟨x, let ⟨_, o, _, e, _⟩ := x; ⟨o, e⟩, fun h1 h2 ⟨y, r⟩ k => ⟨y, r.at' k⟩⟩
theorem zij (h : Heap) (hb : sysModules < h.objs.size) : wPhi P w h.objs.size [] (h.push { cls := .type "dict", data := .dict #[] }) :=
 ⟨by simpa using Nat.ne_of_gt hb, _, #[], 0, Heap.get?_push_size _ rfl, ⟨rfl, rfl, rfl⟩, rfl, rfl, List.nodup_nil⟩
theorem zih (x : wPhi P w d ks h) : ∃ (es : Array DictEntry) (ep : Nat), za1 d (ks.map (·.1)) ep h := by
 obtain ⟨y, o, es, ep, e, c, dt, he, _⟩ := x
 refine ⟨es, ep, y, o, es, e, c, dt, ?_⟩
 rw [he, List.map_map, List.map_map, List.map_map]
 rfl
theorem zjp (x : wPhi P w d ks h) (k : ∀ k ∈ ks, IsWishKey P w h k.2 k.1) : h.DictOfH (zcA P w) d (ks.map kx3) := by
 obtain ⟨y, o, es, ep, e, c, dt, he, nd⟩ := x
 refine ⟨o, es, ep, e, c, dt, he, fun z hz => ?_, nd⟩
 obtain ⟨q, hq, rfl⟩ := List.mem_map.mp hz
 exact k q hq
theorem zii (hd : (d == sysModules) = false) (x : h.DictOfH (zcA P w) d (ks.map kx3)) : wPhi P w d ks h := by
 obtain ⟨o, es, ep, e, c, dt, he, _, nd⟩ := x
 exact ⟨hd, o, es, ep, e, c, dt, he, nd⟩
theorem zgu (ks : List (Addr × List WP)) (a : Addr) (v : List WP) : storedH (ks.map kx3) v a (.bool true) = (putW ks a v).map kx3 := by
 unfold putW
 by_cases h : (ks.any fun k => decide (k.2 = v)) = true
 · rw [if_pos h]
   have ne : atKey (ks.map kx3) v ≠ none := by
    obtain ⟨k, hk, e⟩ := List.any_eq_true.mp h
    unfold atKey
    intro z
    have := Option.map_eq_none_iff.mp z
    exact absurd e (List.find?_eq_none.mp this (kx3 k) (List.mem_map_of_mem hk))
   obtain ⟨p, hp⟩ := Option.ne_none_iff_exists'.mp ne
   rw [storedH_old hp, List.map_map]
   refine List.map_congr_left fun k _ => ?_
   unfold putAt kx3
   simp only [Function.comp]
   split <;> rfl
 · rw [if_neg h, List.map_append]
   have : atKey (ks.map kx3) v = none := by
    unfold atKey
    rw [Option.map_eq_none_iff, List.find?_eq_none]
    intro x hx z
    obtain ⟨k, hk, rfl⟩ := List.mem_map.mp hx
    exact h (List.any_eq_true.mpr ⟨k, hk, z⟩)
   rw [storedH_new this]
   rfl
end
def zif (J : It) (p : Addr) (js : Cap) (g : TG) (tc : TT) (tk tv : TE) (σ : St) (H : Hp) (Q : VK) : Prop :=
 ∃ W : Nat → Nat → St → List (Addr × List WP) → Hp → Prop, (∃ m, ∀ φ, W 0 m (inn js σ) [] (upd H p (.ext φ))) ∧ ∀ i m σ' ks H, W i m σ' ks H → (∀ k ∈ ks, WishAt H k.1 k.2) ∧ ks.length ≤ 900 ∧
  ((J.stop i H ∧ ∀ ep, Q (.ref p) (upd H p (.ext (za1 p (ks.map (·.1)) ep)))) ∨ (J.go i H ∧ ∀ x H', J.yld i H x H' → g x σ' H' fun σ2 H2 => tc σ2 H2 fun b H3 =>
    if b = true then tk σ2 H3 fun k H4 => tv σ2 H4 fun y H5 => ∃ a w, k = .ref a ∧ y = .bl true ∧ WishAt H5 a w ∧ (∀ k ∈ ks, WishAt H5 k.1 k.2) ∧ H5 p = H p ∧ ∀ φ, ∃ m', m' < m ∧ W (i + 1) m' σ2 (putW ks a w) (upd H5 p (.ext φ))
    else H3 p = H p ∧ ∃ m', m' < m ∧ W (i + 1) m' σ2 ks H3))
def tDCW (wi : TI) (js : Cap) (g : TG) (tc : TT) (tk tv : TE) : TE := fun σ H Q => wi σ H fun J H1 => ∀ p, H1 p = none → zif J p js g tc tk tv σ H1 Q
section
variable {X : Cx} {tg iter kx vx : Expr} {ifs : List Expr} {wi : TI} {js : Cap} {g : TG} {tc : TT} {tk tv : TE} {N' : List Str} {scope : Scope} {pos : Pos}
theorem zh3 {pins : List (Addr × Obj)} {σ : St} {H : Hp} {s : Shared} {E : Value → Shared → Prop} {Q : VK} {J : It} {it : Addr} {fp : List Addr} {tn : Nat → Heap → Prop} {cl : List (Str × Addr)}
 (hr : zcO X) (hc : X.calm = true) (ok : CapOk X N' js scope)
 (h2 : ∀ x c, cl.lookup x = some c → X.env.cells.lookup x = some c) (h3 : ∀ p ∈ scope.names, p.2 = .free → (cl.lookup p.1).isSome = true)
 (hg : ∀ cl C s₀ H₀ ex, PG (lcx X N' scope cl C s₀ H₀ ex) tg g) (ht : ∀ cl C s₀ H₀ ex, PIfs (lcx X N' scope cl C s₀ H₀ ex) ifs tc) (he : ∀ cl C s₀ H₀ ex, PE (lcx X N' scope cl C s₀ H₀ ex) kx tk) (hv : ∀ cl C s₀ H₀ ex, PE (lcx X N' scope cl C s₀ H₀ ex) vx tv)
 (I : Inv X pins σ H s) (T : Turn X.prog X.w X.K tg J fp it tn) (st : tn 0 s.heap) (hf : ∀ b ∈ fp, FpOk X pins H b)
 (hw : ∀ p, H p = none → zif J p js g tc tk tv σ H Q) :
 wpAny (model X.prog X.w) X.A newDict (fun acc s₃ => wpAny (model X.prog X.w) X.A (newFunctionEnv scope X.env.globals cl [] X.env.qual none .none (some X.env)) (fun cenv s₄ =>
  codeAny (model X.prog X.w) X.A (.compStart (.DictComp kx vx [⟨tg, iter, ifs, 0⟩] scope pos) 0 (.ref it) acc { cenv with scope := relabel scope X.env })
   (fun r s' => r = .ok .next ∧ (∃ m, s'.heap.Ns cenv.locals m) ∧ ∃ v H', RelV v acc ∧ Inv X pins σ H' s' ∧ FpOk X pins H' cenv.locals ∧ Q v H') s₄) E s₃) E s := by
 have objs := T.obj _ _ st
 refine wpAny_newObj_type ?_
 obtain ⟨W, ⟨m0, w0⟩, turn⟩ := hw s.heap.objs.size (I.hok.fresh (Nat.le_refl _))
 generalize hp : s.heap.objs.size = p at *
 have kp : ∀ b u, s.heap.get? b = some u → (s.heap.push { cls := .type "dict", data := .dict #[] }).get? b = some u := fun b u e => Heap.get?_push_of_some _ e
 have I3 : Inv X pins σ (upd H p (.ext (wPhi X.prog X.w p []))) { s with heap := s.heap.push { cls := .type "dict", data := .dict #[] } } := by
  subst hp
  exact I.laid (t' := s.toks) kp (Nat.le_refl _) (zhV (zij s.heap I.big))
 have fne : ∀ b ∈ fp, b ≠ p := fun b hb => by
  obtain ⟨o, e, _⟩ := objs b hb
  have := Heap.lt_size e
  rw [← hp]
  exact Nat.ne_of_lt this
 have hf3 : ∀ b ∈ fp, FpOk X pins (upd H p (.ext (wPhi X.prog X.w p []))) b := fun b hb => ⟨by rw [zak (fne b hb)]; exact (hf b hb).1, (hf b hb).2⟩
 have st3 : tn 0 (s.heap.push { cls := .type "dict", data := .dict #[] }) := T.keep _ _ _ st fun b _ o e => kp b o e
 have lt3 : ∀ b ∈ fp, b < (s.heap.push { cls := .type "dict", data := .dict #[] }).objs.size := fun b hb => by
  obtain ⟨o, e, _⟩ := objs b hb
  exact Heap.lt_size (kp b o e)
 generalize hs3 : ({ s with heap := s.heap.push { cls := .type "dict", data := .dict #[] } } : Shared) = s3 at *
 have eh : s.heap.push { cls := .type "dict", data := .dict #[] } = s3.heap := by rw [← hs3]
 rw [eh] at st3 lt3
 refine zbO ok.cells fun cl h₁ hns₁ k4 oc => ?_
 have I4 := zdG (cl := cl) (h₁ := h₁) (t' := s3.toks + ([] : List (Str × Value)).length) ok I3 h2 h3 hf3 lt3 k4 hns₁ oc
 have st4 : tn 0 h₁ := T.keep _ _ _ st3 fun b _ o e => k4 b o e
 generalize hX : lcx X N' scope cl s3.heap.objs.size s3 (upd H p (.ext (wPhi X.prog X.w p []))) fp = X' at I4
 have hg' : PG X' tg g := by rw [← hX]; exact hg _ _ _ _ _
 have ht' : PIfs X' ifs tc := by rw [← hX]; exact ht _ _ _ _ _
 have he' : PE X' kx tk := by rw [← hX]; exact he _ _ _ _ _
 have hv' : PE X' vx tv := by rw [← hX]; exact hv _ _ _ _ _
 have eP : X'.prog = X.prog := by rw [← hX]; rfl
 have ew : X'.w = X.w := by rw [← hX]; rfl
 have eK : X'.K = X.K := by rw [← hX]; rfl
 have ec : X'.calm = true := by rw [← hX]; exact hc
 have eA : X'.A = X.A := by rw [← hX]; rfl
 have ex : X'.xe = fun _ _ => False := by rw [← hX]; rfl
 have eE : X'.env = compEnvC scope cl s3.heap.objs.size X.env := by rw [← hX]; rfl
 have eEx : X'.ex = fp := by rw [← hX]; rfl
 have eN : X'.pn = [] := by rw [← hX]; rfl
 have stat : ∀ {H' : Hp}, (∀ b ∈ fp, H' b = none) → ∀ b ∈ fp, FpOk X' [] H' b := fun {H'} hn b hb => by
  have okc := I4.ok
  refine ⟨hn b hb, (okc.exf b (by rw [eEx]; exact hb)).1, okc.exfs b (by rw [eEx]; exact hb), .inl (by rw [eEx]; exact hb), (okc.exf b (by rw [eEx]; exact hb)).2, fun q hq => ?_⟩
  rw [eN] at hq
  cases hq
 have loop : ∀ s₄ : Shared, s₄ = { s3 with heap := h₁, toks := s3.toks + ([] : List (Str × Value)).length } →
  codeAny (model X.prog X.w) X.A (.compLoop (.DictComp kx vx [⟨tg, iter, ifs, 0⟩] scope pos) 0 (.ref it) (.ref p) (compEnvC scope cl s3.heap.objs.size X.env))
   (fun r s' => r = .ok .next ∧ (∃ m, s'.heap.Ns s3.heap.objs.size m) ∧ ∃ v H', RelV v (.ref p) ∧ Inv X pins σ H' s' ∧ FpOk X pins H' s3.heap.objs.size ∧ Q v H') s₄ := by
  rintro s₄ rfl
  refine zc7 (fun n s' => ∃ i σ' ys H', Inv X' [] σ' H' s' ∧ tn i s'.heap ∧ (∀ b ∈ fp, H' b = none) ∧ H' p = some (.ext (wPhi X.prog X.w p ys)) ∧ W i n σ' ys H') ?_ m0 ⟨0, _, [], _, I4, st4, fun b hb => (hf3 b hb).1, zad, w0 _⟩
  rintro n s5 ⟨i, σ5, ys, H5, I5, st5, fr5, hp5, w5⟩
  obtain ⟨wk5, lk5, tu⟩ := turn i n σ5 ys H5 w5
  rcases tu with ⟨stop, qn⟩ | ⟨go, step⟩
  · have D := T.done X' eP ew eK ec i [] s5 σ5 H5 (fun _ _ => False) I5 (stat fr5) st5 stop
    rw [eA] at D
    refine thn D fun r s6 ⟨hr, I6⟩ => ?_
    subst hr
    obtain ⟨es0, ep0, row⟩ := zih ((show ObjOk X'.prog X'.w H5 s6.heap p (.ext (wPhi X.prog X.w p ys)) from I6.hok p _ hp5).1)
    have I3' : Inv X' [] σ5 (upd H5 p (.ext (za1 p (ys.map (·.1)) ep0))) s6 := I6.write (t' := s6.toks) (x := p) (e := p) (by rw [hp5]; exact True.intro) (.inl rfl) (fun b u _ z => z) (let ⟨o, _, e, _⟩ := row.2; ⟨o, e⟩) (zjV row)
    refine ⟨rfl, ?_, .ref p, upd H5 p (.ext (za1 p (ys.map (·.1)) ep0)), rfl, ?_, ?_, qn ep0⟩
    · obtain ⟨m, hm, _⟩ := I6.loc
      rw [eE] at hm
      exact ⟨m, hm⟩
    · have b6 := I3'.base
      have ho := I3'.os
      have hk := I3'.hok
      have hb := I3'.bare
      subst hX
      exact I3.call' (ch := fp) ho b6 hk hb fun b hb' => ⟨(hf b hb').2.2.2.1, (hf b hb').2.1, (hf b hb').2.2.2.2.1, (hf b hb').2.2.2.2.2⟩
    · have fr := I3'.free
      rw [eE] at fr
      exact I3.fpOk (Nat.le_refl _) fr
  · have D := T.item X' eP ew eK ec i [] s5 σ5 H5 (fun _ _ => False) I5 (stat fr5) st5 go
    rw [eA] at D
    refine thn D fun r s6 ⟨u, hr, h6⟩ => ?_
    subst hr
    refine thn h6 fun _ s7 ⟨x, H7, I7, r7, y7, st7, fr7⟩ => ?_
    have I7' := I7.pinned (stat fr7) (T.obj _ _ st7)
    have G := hg' _ s7 σ5 H7 x u _ I7' r7 (step x H7 y7)
    rw [eP, ew, eA, ex, eE] at G
    refine thn G fun _ s8 ⟨σ8, H8, I8, q8⟩ => ?_
    have Tt := ht' _ s8 σ8 H8 _ I8 q8
    rw [eP, ew, eA, ex, eE] at Tt
    refine thn Tt fun b s9 ⟨H9, I9, q9⟩ => ?_
    have again : ∀ {s' : Shared} {ys' : List (Addr × List WP)} {H' : Hp}, Inv X' ([] ++ zdv fp s7.heap) σ8 H' s' → H' p = some (.ext (wPhi X.prog X.w p ys')) → (∃ m', m' < n ∧ W (i + 1) m' σ8 ys' H') →
     ∃ m, m < n ∧ ∃ i σ' ys H', Inv X' [] σ' H' s' ∧ tn i s'.heap ∧ (∀ b ∈ fp, H' b = none) ∧ H' p = some (.ext (wPhi X.prog X.w p ys)) ∧ W i m σ' ys H' := fun {s' ys' H'} I' hp' ⟨m', hm, w'⟩ => by
     refine ⟨m', hm, i + 1, σ8, ys', H', I'.unpinned, T.keep _ _ _ st7 fun b hb o e => (I'.pin (b, o) (List.mem_append_right _ (List.mem_append_right _ (za2 hb e)))).1, fun b hb => ?_, hp', w'⟩
     obtain ⟨o, e, d⟩ := T.obj _ _ st7 b hb
     exact (I'.pin (b, o) (List.mem_append_right _ (List.mem_append_right _ (za2 hb e)))).2.1
    cases b with
    | false =>
     obtain ⟨e9, q9⟩ := q9
     exact again I9 (e9.trans hp5) q9
    | true =>
     have Ee := he' _ s9 σ8 H9 _ I9 q9
     rw [eP, ew, eA, ex, eE] at Ee
     show wpAny _ _ _ _ _ _
     refine thn Ee fun kv s10 ⟨kk, H10, I10, r10, q10⟩ => ?_
     have Ev := hv' _ s10 σ8 H10 _ I10 q10
     rw [eP, ew, eA, ex, eE] at Ev
     refine thn Ev fun vv s11 ⟨y, H11, I11, r11, a, wv, ek, ey, wa, wks, hp11, q11⟩ => ?_
     subst ek ey
     cases (show kv = Value.ref a from r10)
     cases (show vv = Value.bool true from r11)
     have hp11' := hp11.trans hp5
     have ph := (show ObjOk X'.prog X'.w H11 s11.heap p (.ext (wPhi X.prog X.w p ys)) from I11.hok p _ hp11').1
     have hok := I11.hok
     rw [eP, ew] at hok
     refine wpAny_dictSet_heap (knd := zcA X.prog X.w) (xs := ys.map kx3) (k := wv) (by show X.A.units + 1 < cLine; unfold zcO at hr; omega) (zf7 hok wa) (zjp ph fun k hk => zf7 hok (wks k hk)) (fun h' dd' hs' => ?_) (by rw [List.length_map, sizeLine_eq]; omega)
     rw [zgu] at dd'
     have he0 : ∃ q, h'.get? p = some q := let ⟨q, _, _, hq, _⟩ := dd'; ⟨q, hq⟩
     have I12 := zh4 (t' := s11.toks + (zcA X.prog X.w).draws wv) (ob := .ext (wPhi X.prog X.w p (putW ys a wv))) I11 (by rw [hp11']; exact True.intro) hs' he0 (zhV (zii ph.1 dd'))
     exact again I12 zad (q11 _)
 exact codeAny_compStart_dict (loop _ rfl) (T.self _ 0 _ _ _ st4 (loop _ rfl))
theorem zkt (hr : zcO X) (hc : X.calm = true) (ok : CapOk X N' js scope) (hi : PI X tg iter wi)
 (hg : ∀ cl C s₀ H₀ ex, PG (lcx X N' scope cl C s₀ H₀ ex) tg g) (ht : ∀ cl C s₀ H₀ ex, PIfs (lcx X N' scope cl C s₀ H₀ ex) ifs tc) (he : ∀ cl C s₀ H₀ ex, PE (lcx X N' scope cl C s₀ H₀ ex) kx tk) (hv : ∀ cl C s₀ H₀ ex, PE (lcx X N' scope cl C s₀ H₀ ex) vx tv)
 (hs : ∀ x, foldedSetIterable iter X.env x = pure x := by intro _; rfl) : PE X (.DictComp kx vx [⟨tg, iter, ifs, 0⟩] scope pos) (tDCW wi js g tc tk tv) := by
 intro pins s σ H Q I h
 obtain ⟨cl, c1, c2, c3⟩ := zew (scope := scope) I.ok.has ok.free
 show wpAny _ X.A (comprehension (.DictComp kx vx [⟨tg, iter, ifs, 0⟩] scope pos) scope X.env _ newDict false (eval iter X.env)) _ _ s
 refine wpAny_comprehension_free (use := none) rfl hs c1 ok.kind ok.names (thn (hi pins s σ H _ I h) fun v s1 h1 => thn h1 fun itv s2 h2 => ?_)
 obtain ⟨it, fp, tn, J, H2, e, I2, T, st2, f2, hw⟩ := h2
 subst e
 refine wpAny_mono (zh3 (iter := iter) (pos := pos) hr hc ok c2 c3 hg ht he hv I2 T st2 f2 hw) (fun acc s3 h3 => wpAny_mono h3 (fun cenv s4 h4 => ?_) fun _ _ z => z) fun _ _ z => z
 refine codeAny_mono h4 fun r s5 h5 => ?_
 obtain ⟨rfl, ⟨m, hm⟩, v, H5, rv, I5, f5, q5⟩ := h5
 refine ⟨m, hm, fun h' sb => ?_⟩
 obtain ⟨f0, f1, _, f3, f4, f6⟩ := f5
 exact ⟨v, H5, I5.turned (t' := s5.toks) (fun b o hb e => (sb.2 b hb).trans e) f0 f1 f3 f4 f6, rv, q5⟩
end
def relS (outer scope : Scope) : Scope := { scope with names := scope.names.map fun (n, k) => if (k == .free && outer.kind == .function && outer.names.lookup n == some .cell) then (n, .cell) else (n, k) }
def zkV (st : Stmt) (k : Nat) : Scope := match st with
 | .FunctionDef _ _ b _ _ _ _ _ _ _ => (match b[k]? with
  | some (.Assign _ (.ListComp _ _ sc _) _) => sc
  | _ => zag st)
 | _ => zag st
theorem ziE {X : Cx} {tg : Expr} (K : PySem.W.Frag) (h : X.K = K) {l : Expr} {tl : TE} (hl : PE X l tl) (hc : X.calm = true := by rfl) : PI X tg l (zkO K tl) := by subst h; exact zbR hl
section
variable {X : Cx}
def zjC (K : PySem.W.Frag) : R2 := fun x y H Q => ∃ (l : Addr) (ps : List (Addr × PD)) (d : PD), y = .ref l ∧ SqL K H l (ps.map fun p => V.ref p.1) ∧ (∀ p ∈ ps, Rep K H p.2 (.ref p.1) ∧ zay p.2 ≤ 20) ∧ Rep K H d x ∧ Q (.bl (!ps.any fun p => pyEq p.2 d)) H
theorem zhu (hr : zcO X) : OpR X (compareOp .NotIn) (zjC X.K) := by
 intro pins s σ H x y v u Q I rx ry h
 obtain ⟨l, ps, d, rfl, hq, hp, hd, q⟩ := h
 cases ry
 obtain ⟨its, r, pl, hz⟩ := I.list hq
 obtain rfl := zeA r
 have at' : ∀ p ∈ ps, eqR ps d (.ref p.1) = pyEq p.2 d := fun p hm => by
  show ((ps.find? fun q => decide (q.1 = p.1)).any fun q => pyEq q.2 d) = pyEq p.2 d
  cases e : ps.find? (fun q => decide (q.1 = p.1)) with
  | none => exact absurd (decide_eq_true rfl) (List.find?_eq_none.mp e p hm)
  | some p' =>
   have h1 : p'.1 = p.1 := of_decide_eq_true (List.find?_some (p := fun (q : Addr × PD) => decide (q.1 = p.1)) e)
   have h2 := (hp p' (List.mem_of_find?_eq_some e)).1
   rw [h1] at h2
   rw [Option.any_some, zd9 I _ _ _ h2 (hp p hm).1]
 refine SeqAt.notIn_listAt (eqR ps d) pl.isList (fun z hz' => ?_) ⟨.bl _, H, I, rfl, ?_⟩
 · obtain ⟨p, hm, rfl⟩ := List.mem_map.mp (show z ∈ ps.map fun p => Value.ref p.1 by simpa using hz')
   rw [at' p hm]
   have := (hp p hm).2
   exact zbT I _ p.2 d _ _ _ _ (hp p hm).1 hd rfl rx (by have := hr; simp only [zcO, Around.in1_units] at *; omega)
 · have e : (ps.map fun p => Value.ref p.1).toArray.any (eqR ps d) = ps.any fun p => pyEq p.2 d := by
    rw [List.any_toArray, List.any_map]
    have : ∀ qs : List (Addr × PD), (∀ q ∈ qs, q ∈ ps) → qs.any (eqR ps d ∘ fun p => Value.ref p.1) = qs.any fun p => pyEq p.2 d := fun qs => by
     induction qs with
     | nil => intro _; rfl
     | cons q qs ih =>
      intro h
      rw [List.any_cons, List.any_cons, ih fun x hx => h x (List.mem_cons_of_mem _ hx)]
      congr 1
      exact at' q (h q List.mem_cons_self)
    exact this ps fun _ h => h
   rw [e]
   exact q
end
open PySem.AutoSeq1 (wpAny_loadPart')
open PySem.MeetsSeq PySem.MeetsSeq2 PySem.MeetsSeq3 PySem.SeqRoads2 PySem.Calls
section
variable {P : Program} {w : World}
theorem zfJ (l b : Addr) (items items2 : Array Value) (n n2 : Nat) (dd dd2 : Option Addr) (sl sl2 : Array (Option Value)) (hsz : items.size = items2.size) (k : Nat) :
 ∀ i : Nat, items.size - i = k → ∀ (A : Around) (R : Result → Shared → Prop) (s : Shared), s.heap.get? l = some { cls := .type "list", dict := dd, data := .seq items n, slots := sl } → s.heap.get? b = some { cls := .type "list", dict := dd2, data := .seq items2 n2, slots := sl2 } →
  (∀ j (h1 : j < items.size) (h2 : j < items2.size), EqIn P w A.in1 s items[j] items2[j]) → R (.ok (.ret (.bool false))) s →
  wpAny (model P w) A.in1 (Builtin.«list.__eq__.loop» ⟨[.ref l, .ref b, rawInt i, rawInt 3], []⟩) (fun fin s' => match fin with | .done f => R (.ok f) s' | .again c' => c'.quiet = true ∧ codeAny (model P w) A c' R s') (fun e s' => R (.error e) s') s := by
 induction k with
 | zero =>
  intro i hk A R s hl hb he h
  obtain ⟨hp, g, d, tk, os⟩ := s
  wp_walk using wpAny_loadPart' hl, wpAny_loadPart' hb
  have o1 : items[((i : Nat) : Int).toNat]? = none := by simp; omega
  have o2 : items2[((i : Nat) : Int).toNat]? = none := by simp; omega
  rw [o1, o2]
  wp_walk using wpAny_loadPart' hl, wpAny_loadPart' hb
  show R (.ok (.ret (.bool (items.size != items2.size)))) _
  rw [hsz]
  simpa using h
 | succ k ih =>
  intro i hk A R s hl hb he h
  obtain ⟨hp, g, d, tk, os⟩ := s
  wp_walk using wpAny_loadPart' hl, wpAny_loadPart' hb
  have lt1 : i < items.size := by omega
  have lt2 : i < items2.size := by omega
  have o1 : items[((i : Nat) : Int).toNat]? = some items[i] := by simp [lt1]
  have o2 : items2[((i : Nat) : Int).toNat]? = some items2[i] := by simp [lt2]
  have hc : ((i : Int) + 1) = ((i + 1 : Nat) : Int) := by push_cast; rfl
  rw [o1, o2]
  refine wpAny_bind (he i lt1 lt2 _ _ ?_)
  wp_walk
  rw [hc]
  exact ⟨plainId_quiet plain_eq_loop _, codeAny_builtin entry_eq_loop (by
   rw [Around.under_plainId plain_eq_loop _]
   exact ih (i + 1) (by omega) A R _ hl hb he h)⟩
theorem zkA (l b : Addr) (items items2 : Array Value) (n n2 : Nat) (dd dd2 : Option Addr) (sl sl2 : Array (Option Value)) (hsz : items.size = items2.size) (A : Around) (R : Result → Shared → Prop) (s : Shared)
 (hl : s.heap.get? l = some { cls := .type "list", dict := dd, data := .seq items n, slots := sl }) (hb : s.heap.get? b = some { cls := .type "list", dict := dd2, data := .seq items2 n2, slots := sl2 })
 (he : ∀ j (h1 : j < items.size) (h2 : j < items2.size), EqIn P w A.in1 s items[j] items2[j]) (h : R (.ok (.ret (.bool false))) s) :
 wpAny (model P w) A.in1 (Builtin.«list.__ne__» ⟨[.ref l, .ref b], []⟩) (fun fin s' => match fin with | .done f => R (.ok f) s' | .again c' => c'.quiet = true ∧ codeAny (model P w) A c' R s') (fun e s' => R (.error e) s') s := by
 obtain ⟨hp, g, d, tk, os⟩ := s
 have f3 := AutoSeq1.sub_list_list
 have hne : ¬ (items.size != items2.size) = true := by simp [hsz]
 wp_walk using wpAny_loadPart' hl, wpAny_loadPart' hb
 exact ⟨plainId_quiet plain_eq_loop _, codeAny_builtin entry_eq_loop (by
  rw [Around.under_plainId plain_eq_loop _]
  exact zfJ l b items items2 n n2 dd dd2 sl sl2 hsz _ 0 rfl A R _ hl hb he h)⟩
theorem zjz {l b : Addr} {items items2 : Array Value} {A : Around} {s : Shared} {E : Value → Shared → Prop} {Q : Value → Shared → Prop} (hl : s.heap.IsList l items) (hb : s.heap.IsList b items2) (hsz : items.size = items2.size) (hu : A.units < cLine)
 (he : ∀ j (h1 : j < items.size) (h2 : j < items2.size), EqIn P w A.in1 s items[j] items2[j]) (h : Q (.bool false) s) : wpAny (model P w) A (richCompare .NotEq (.ref l) (.ref b)) Q E s := by
 obtain ⟨⟨c1, dd, data, sl⟩, ho, hc, n, hd⟩ := id hl
 obtain ⟨⟨c2, dd2, data2, sl2⟩, ho2, hc2, n2, hd2⟩ := id hb
 simp only at hc hd hc2 hd2
 subst hc hd hc2 hd2
 refine wpAny_richCompare_same_room (op := .NotEq) ⟨_, ho, rfl⟩ ⟨_, ho2, rfl⟩ F.slot_list_ne ?_ hu
 refine wpAny_call (codeAny_call_builtin F.slot_list_ne.plain F.entry_list_ne (F.slot_list_ne.check _ _ _ _ _ _ _ _ ⟨_, ho, rfl⟩ (F.args_list_ne_2 _ _) ?_))
 exact zkA l b items items2 n n2 dd dd2 sl sl2 hsz A (wants (fun v s' => v ≠ .notImplemented ∧ Q v s') E) s ho ho2 he (show Value.bool false ≠ Value.notImplemented ∧ Q (.bool false) s from ⟨(fun x => nomatch x), h⟩)
end
section
variable {P : Program} {w : World} {κ : Type} [DecidableEq κ] {knd : KeyKind P w κ} {A : Around} {E : Value → Shared → Prop} {s : Shared}
end
end L2
namespace L2
open PySem PySem.Spec PyProof.Rows
section
variable {X : Cx}
end
section
variable {X : Cx} {pins : List (Addr × Obj)} {σ : St} {H : Hp} {s : Shared}
end
section
variable {X : Cx}
end
section
variable {X : Cx}
def rEqE : R2 := fun x y H Q => ∃ a b xs, x = .ref a ∧ y = .ref b ∧ H a = some (.lst xs) ∧ H b = some (.lst []) ∧ Q (.bl xs.isEmpty) H
def rNeE : R2 := fun x y H Q => ∃ a b xs, x = .ref a ∧ y = .ref b ∧ H a = some (.lst xs) ∧ H b = some (.lst []) ∧ Q (.bl (!xs.isEmpty)) H
theorem zky (hr : zcO X) : OpR X (compareOp .Eq) rEqE := by
 intro pins s σ H x y v u Q I rx ry h
 obtain ⟨a, b, xs, rfl, rfl, ha, hb, q⟩ := h
 cases (show v = Value.ref a from rx)
 cases (show u = Value.ref b from ry)
 unfold zcO at hr
 obtain ⟨_, its, n, rv, hg⟩ := (show ObjOk X.prog X.w H s.heap a (.lst xs) from I.hok a _ ha)
 obtain ⟨_, its', n', rv', hg'⟩ := (show ObjOk X.prog X.w H s.heap b (.lst []) from I.hok b _ hb)
 cases rv'
 cases xs with
 | nil =>
  cases rv
  exact zft ⟨_, hg, rfl, _, rfl⟩ ⟨_, hg', rfl, _, rfl⟩ rfl (by omega) (fun j k1 k2 => absurd k1 (by simp)) ⟨.bl true, H, I, rfl, q⟩
 | cons x xs =>
  have l := rv.length
  exact SeqAt.RcAt.lists_lengths (l := a) (b := b) ⟨_, hg, rfl, _, rfl⟩ ⟨_, hg', rfl, _, rfl⟩ (by simp; intro z; rw [z] at l; simp at l) (by omega) X.prog X.w _ _ ⟨.bl false, H, I, rfl, q⟩
theorem zkv (hr : zcO X) : OpR X (compareOp .NotEq) rNeE := by
 intro pins s σ H x y v u Q I rx ry h
 obtain ⟨a, b, xs, rfl, rfl, ha, hb, q⟩ := h
 cases (show v = Value.ref a from rx)
 cases (show u = Value.ref b from ry)
 unfold zcO at hr
 obtain ⟨_, its, n, rv, hg⟩ := (show ObjOk X.prog X.w H s.heap a (.lst xs) from I.hok a _ ha)
 obtain ⟨_, its', n', rv', hg'⟩ := (show ObjOk X.prog X.w H s.heap b (.lst []) from I.hok b _ hb)
 cases rv'
 cases xs with
 | nil =>
  cases rv
  exact zjz ⟨_, hg, rfl, _, rfl⟩ ⟨_, hg', rfl, _, rfl⟩ rfl (by omega) (fun j k1 k2 => absurd k1 (by simp)) ⟨.bl false, H, I, rfl, q⟩
 | cons x xs =>
  have l := rv.length
  exact SeqAt.RcNeAt.lists_lengths (l := a) (b := b) ⟨_, hg, rfl, _, rfl⟩ ⟨_, hg', rfl, _, rfl⟩ (by simp; intro z; rw [z] at l; simp at l) (by omega) X.prog X.w _ _ ⟨.bl true, H, I, rfl, q⟩
end
mutual
def szY : DY → Nat
 | .str x => x.length
 | .lst ds => max ds.length (szYs ds)
 | .tup ds => max ds.length (szYs ds)
 | .da d => szY d
 | _ => 0
def szYs : List DY → Nat
 | [] => 0
 | d :: ds => max (szY d) (szYs ds)
end
theorem zis {v : V} {i : Nat} {u : TS} {D : Ends} {σ : St} {H : Hp} (h : u D (σ.set i (some v)) H) : tSeq (tAsg (tC v) (zfT i)) u D σ H := h
theorem zid : bootBuiltins "abs" = some (.builtin "abs") := by decide +kernel
abbrev wM : Int := 2147483563
structure Well (H : Hp) (b g l : Addr) (n : Int) : Prop where
 ex : ∃ (gs ls : List Int) (sd c : Int), H b = some (.lst [.ref g, .ref l, .int sd, .int c]) ∧ H g = some (.lst (gs.map V.int)) ∧ H l = some (.lst (ls.map V.int)) ∧
  gs.length ≤ 63 ∧ ls.length ≤ 63 ∧ (∀ x ∈ ls, 0 ≤ x ∧ x < wM) ∧ 0 ≤ sd ∧ sd < wM ∧ 0 ≤ c ∧ c ≤ n
 gl : g ≠ l
 bg : b ≠ g
 bl : b ≠ l
theorem Well.mono {H : Hp} {b g l : Addr} {n m : Int} (B : Well H b g l n) (h : n ≤ m) : Well H b g l m := by
 obtain ⟨⟨gs, ls, sd, c, h1, h2, h3, h4, h5, h6, h7, h8, h9, h10⟩, gl, bg, bl⟩ := B
 exact ⟨⟨gs, ls, sd, c, h1, h2, h3, h4, h5, h6, h7, h8, h9, Int.le_trans h10 h⟩, gl, bg, bl⟩
theorem Well.same {H H' : Hp} {b g l : Addr} {n : Int} (B : Well H b g l n) (h : Same H H') : Well H' b g l n := by
 obtain ⟨⟨gs, ls, sd, c, h1, h2, h3, h4⟩, gl, bg, bl⟩ := B
 exact ⟨⟨gs, ls, sd, c, h _ _ h1, h _ _ h2, h _ _ h3, h4⟩, gl, bg, bl⟩
theorem Well.tup {b g l : Addr} {n : Int} {H H' : Hp} (B : Well H b g l n) (s : SameB b g H H') {a : Addr} {xs : List V} (h : H a = some (.tup xs)) : H' a = some (.tup xs) := by
 obtain ⟨gs, ls, c, st, h1, h2, _⟩ := B.ex
 exact s a _ h (zhA h h1 (by intro z; cases z)) (zhA h h2 (by intro z; cases z))
theorem Well.free {H : Hp} {b g l : Addr} {n : Int} (B : Well H b g l n) {p : Addr} (h : H p = none) : p ≠ b ∧ p ≠ g ∧ p ≠ l := by
 obtain ⟨gs, ls, c, st, h1, h2, h3, _⟩ := B.ex
 exact ⟨(zam h1 h).symm, (zam h2 h).symm, (zam h3 h).symm⟩
theorem Well.trk {H : Hp} {b g l : Addr} {n : Int} (B : Well H b g l n) : H b ≠ none ∧ H g ≠ none := by
 obtain ⟨gs, ls, c, st, h1, h2, _⟩ := B.ex
 refine ⟨?_, ?_⟩
 · rw [h1]; exact Option.some_ne_none _
 · rw [h2]; exact Option.some_ne_none _
theorem Well.back {H H' : Hp} {b g l : Addr} {n : Int} (B : Well H' b g l n) (s : SameB b g H H') : ∀ a, H' a = Option.none → H a = Option.none := fun a h => by
 cases e : H a with
 | none => rfl
 | some o =>
  have h1 : a ≠ b := fun z => B.trk.1 (z ▸ h)
  have h2 : a ≠ g := fun z => B.trk.2 (z ▸ h)
  rw [s a o e h1 h2] at h
  cases h
theorem Well.off {b g l p : Addr} {n : Int} {H : Hp} {o : HO} (B : Well H b g l n) (pb : p ≠ b) (pg : p ≠ g) (pl : p ≠ l) : Well (upd H p o) b g l n := by
 obtain ⟨gs, ls, c, st, e1, e2, e3, r⟩ := B.ex
 exact ⟨⟨gs, ls, c, st, by rw [zak pb.symm]; exact e1, by rw [zak pg.symm]; exact e2, by rw [zak pl.symm]; exact e3, r⟩, B.gl, B.bg, B.bl⟩
theorem WishAt.sameW {H H' : Hp} {b g l : Addr} {n : Int} {a : Addr} {w : List WP} (h : WishAt H a w) (B : Well H b g l n) (s : SameB b g H H') : WishAt H' a w := h.keep fun _ _ e => B.tup s e
theorem zeT {m : Int} (h : m ≤ 10 ^ 6) : m < 2 ^ 500 := Int.lt_of_le_of_lt h (by decide)
def zgY (K : PySem.W.Frag) : Sp := fun vs H Q _ => ∃ (a : Addr) (ns : List Int), vs = [.ref a] ∧ SqL K H a (ns.map V.int) ∧ ns.length ≤ 63 ∧
 ∀ (b g l : Addr) (H' : Hp), Well H' b g l 0 → Same H H' → H b = none → H g = none → Q (.ref b) H'
def zgZ : Sp := fun vs H Q _ => ∃ (b g l : Addr) (n many : Int), vs = [.ref b, .int many] ∧ Well H b g l n ∧ n ≤ 2 ^ 40 ∧ 0 < many ∧ many < 2 ^ 500 ∧
 ∀ (r : Int) (H' : Hp), 0 ≤ r → r < many → Well H' b g l (n + 1) → SameB b g H H' → Q (.int r) H'
def zg3 : Sp := fun vs H Q _ => ∃ (b g l : Addr) (n most : Int), vs = [.ref b, .int most] ∧ Well H b g l n ∧ n ≤ 10 ^ 8 ∧ 1 ≤ most ∧ most ≤ 8 ∧
 ∀ (x : Str) (H' : Hp), FieldOk x → Well H' b g l (n + 12) → SameB b g H H' → Q (.str x) H'
def zdq : Sp := fun vs H Q _ => ∃ (b g l : Addr) (n many : Int), vs = [.ref b, .int many] ∧ Well H b g l n ∧ n ≤ 10 ^ 7 ∧ 1 ≤ many ∧ many ≤ 6 ∧
 ∀ (r : Addr) (fs : List Str) (H' : Hp), H r = none → H' r = some (.lst (fs.map V.str)) → fs.Pairwise ltF → (∀ f ∈ fs, FieldOk f) → 1 ≤ fs.length → (fs.length : Int) ≤ many → Well H' b g l (n + 200) → SameB b g H H' → Q (.ref r) H'
def zg6 : Sp := fun vs H Q _ => ∃ (b g l : Addr) (n : Int), vs = [.ref b] ∧ Well H b g l n ∧ n ≤ 10 ^ 9 ∧ ∀ (r : Int) (H' : Hp), -(10 ^ 15) < r → r < 10 ^ 15 → Well H' b g l (n + 5) → SameB b g H H' → Q (.int r) H'
def zg5 : Sp := fun vs H Q _ => ∃ (b g l : Addr) (n : Int), vs = [.ref b] ∧ Well H b g l n ∧ n ≤ 10 ^ 8 ∧
 ∀ (t : Addr) (lo sz : Int) (H' : Hp), H' t = some (.tup [.int lo, .int sz]) → -(10 ^ 15) < lo → lo < 10 ^ 15 → 1 ≤ sz → sz ≤ 10 ^ 10 → Well H' b g l (n + 12) → SameB b g H H' → Q (.ref t) H'
def zfh : Sp := fun vs H Q _ => ∃ (b g l t : Addr) (n lo sz wide : Int), vs = [.ref b, .ref t, .int wide] ∧ Well H b g l n ∧ n ≤ 10 ^ 8 ∧ H t = some (.tup [.int lo, .int sz]) ∧ 1 ≤ sz ∧ sz ≤ 10 ^ 10 ∧ 1 ≤ wide ∧ wide ≤ 100 ∧
 ∀ (r : Addr) (a b' : Option Int) (H' : Hp), H' r = some (.tup [eV a, eV b']) → leO a b' = true → Well H' b g l (n + 3) → SameB b g H H' → Q (.ref r) H'
def inF (fs : List Str) (w : List WP) : Prop := ∀ p ∈ w, p.1 ∈ fs
structure NamesAt (H : Hp) (b g : Addr) (a : Addr) (fs : List Str) : Prop where
 at' : H a = some (.lst (fs.map V.str))
 nb : a ≠ b
 ng : a ≠ g
 len : fs.length ≤ 6
 ok : ∀ f ∈ fs, FieldOk f
 asc : fs.Pairwise ltF
theorem NamesAt.sameB {H H' : Hp} {b g a : Addr} {fs : List Str} (h : NamesAt H b g a fs) (s : SameB b g H H') : NamesAt H' b g a fs := ⟨s _ _ h.at' h.nb h.ng, h.nb, h.ng, h.len, h.ok, h.asc⟩
def zfd : Sp := fun vs H Q _ => ∃ (b g l a t : Addr) (n lo sz wide : Int) (fs : List Str), vs = [.ref b, .ref a, .ref t, .int wide] ∧ Well H b g l n ∧ n ≤ 10 ^ 7 ∧ NamesAt H b g a fs ∧ H t = some (.tup [.int lo, .int sz]) ∧ 1 ≤ sz ∧ sz ≤ 10 ^ 10 ∧ 1 ≤ wide ∧ wide ≤ 100 ∧
 ∀ (r : Addr) (w : List WP) (H' : Hp), WishAt H' r w → WOk w → inF fs w → w.length ≤ 6 → Well H' b g l (n + 30) → SameB b g H H' → Q (.ref r) H'
def zdn : Sp := fun vs H Q _ => ∃ (b g l a t : Addr) (n lo sz wide many : Int) (fs : List Str), vs = [.ref b, .ref a, .ref t, .int wide, .int many] ∧ Well H b g l n ∧ n ≤ 10 ^ 6 ∧ NamesAt H b g a fs ∧ H t = some (.tup [.int lo, .int sz]) ∧ 1 ≤ sz ∧ sz ≤ 10 ^ 10 ∧ 1 ≤ wide ∧ wide ≤ 100 ∧ 0 ≤ many ∧ many ≤ 400 ∧
 ∀ (r : Addr) (ws : List (Addr × List WP)) (H' : Hp), H r = none → WsAt H' r ws → (ws.length : Int) = many → (∀ x ∈ ws, inF fs x.2 ∧ x.2.length ≤ 6) → Well H' b g l (n + 40 * many) → SameB b g H H' → Q (.ref r) H'
section
variable {X : Cx}
def zjB : V → Option Int → Option Int → Hp → VK → Prop := fun x lo hi H Q => ∃ y : Str, x = .str y ∧ y.length ≤ 100000 ∧ ∀ z : Str, z.length ≤ y.length → (∀ j, hi = some j → 0 ≤ j → (z.length : Int) ≤ j) → (∀ c ∈ z.cps.toList, c ∈ y.cps.toList) → (∀ j, lo = none → hi = some j → 1 ≤ j → 1 ≤ y.length → 1 ≤ z.length) → Q (.str z) H
theorem zgC (lo hi : Option Int) (n : Nat) : (Builtin.Str.strSliceIndices lo hi 1 n).length ≤ n ∧ (∀ j, hi = some j → 0 ≤ j → ((Builtin.Str.strSliceIndices lo hi 1 n).length : Int) ≤ j) ∧ (∀ j, lo = none → hi = some j → 1 ≤ j → 1 ≤ n → 0 ∈ Builtin.Str.strSliceIndices lo hi 1 n) := by
 refine ⟨indices_len_le lo hi n, fun j e h0 => ?_, fun j e1 e2 h1 h2 => ?_⟩
 · subst e
   unfold Builtin.Str.strSliceIndices sliceRange
   cases lo <;> simp only [show (1 : Int) > 0 by decide, if_true, List.length_map, List.length_range] <;> (split <;> (try split) <;> (try split) <;> (try simp only [Int.ediv_one]) <;> omega)
 · subst e1 e2
   unfold Builtin.Str.strSliceIndices sliceRange
   simp only [show (1 : Int) > 0 by decide, if_true]
   refine List.mem_map.mpr ⟨0, List.mem_range.mpr ?_, ?_⟩
   · have : ¬ j < 0 := by omega
     simp only [this, if_false, Int.ediv_one]
     split <;> omega
   · simp
theorem zfo : SlR X zjB := by
 intro pins s σ H x v vl vu lo hi sl Q I rx hs pl pu h
 obtain ⟨y, rfl, hl, q⟩ := h
 obtain ⟨t, rfl⟩ := (show ∃ t, v = Value.str y t from rx)
 obtain ⟨l, el, e1⟩ : ∃ l : Option (Int × Tok), vl = partValue l ∧ l.map (·.1) = lo := by
  cases pl with
  | none => exact ⟨none, rfl, rfl⟩
  | int i t => exact ⟨some (i, t), rfl, rfl⟩
 obtain ⟨u, eu, e2⟩ : ∃ l : Option (Int × Tok), vu = partValue l ∧ l.map (·.1) = hi := by
  cases pu with
  | none => exact ⟨none, rfl, rfl⟩
  | int i t => exact ⟨some (i, t), rfl, rfl⟩
 have hS : s.heap.IsSlice sl l u none := by
  obtain ⟨o, h1, h2, h3⟩ := hs
  exact ⟨o, h1, h2, by rw [h3, el, eu]; rfl⟩
 have pk : slicePicked y l u none = Builtin.Str.strSliceIndices lo hi 1 y.length := by unfold slicePicked; rw [e1, e2]; rfl
 obtain ⟨p1, p2, p3⟩ := zgC lo hi y.length
 have hsz : (100000 : Nat) ≤ sizeLine := by decide
 refine ⟨"str", _, F.slot_str_getitem.lookup, typeIs_str s y t, ?_⟩
 refine getItem_meets (typeIs_str s y t) (by decide) F.slot_str_getitem F.entry_str_getitem (F.args_str_getitem_2 _ _) (meets_str_getitem_slice y t sl l u none rfl) ⟨hS, ?_⟩
 unfold sliceMade
 rw [pk]
 split
 · rename_i hc
   have hc : (Builtin.Str.strSliceIndices lo hi 1 y.length).length = y.length := by simpa using hc
   exact ⟨.str y, H, I, ⟨t, rfl⟩, q y (Nat.le_refl _) (fun j e h0 => by have := p2 j e h0; omega) (fun c hc => hc) fun _ _ _ _ z => z⟩
 · have hz : (⟨((Builtin.Str.strSliceIndices lo hi 1 y.length).filterMap (y.cps[·]?)).toArray⟩ : Str).length ≤ (Builtin.Str.strSliceIndices lo hi 1 y.length).length := by
    show (List.filterMap _ _).toArray.size ≤ _
    rw [List.size_toArray]
    exact List.length_filterMap_le _ _
   refine ⟨by omega, ⟨.str _, H, I.tok _, ⟨_, rfl⟩, q _ (by omega) (fun j e h0 => by have := p2 j e h0; omega) (fun c hc => ?_) fun j f1 f2 f3 f4 => ?_⟩⟩
   · have hc : c ∈ (Builtin.Str.strSliceIndices lo hi 1 y.length).filterMap (y.cps[·]?) := by simpa using hc
     obtain ⟨i, _, hi'⟩ := List.mem_filterMap.mp hc
     exact Array.mem_toList_iff.mpr (Array.mem_of_getElem? hi')
   · have m0 := p3 j f1 f2 f3 f4
     show 1 ≤ (List.filterMap _ _).toArray.size
     rw [List.size_toArray]
     have h0 : 0 < y.cps.size := f4
     have : y.cps[0]'h0 ∈ (Builtin.Str.strSliceIndices lo hi 1 y.length).filterMap (y.cps[·]?) := List.mem_filterMap.mpr ⟨0, m0, by simp [h0]⟩
     exact List.length_pos_of_mem this
end
structure IsTop (ws qs : List (List WP)) : Prop where
 nd : qs.Nodup
 mem : ∀ w, w ∈ qs ↔ w ∈ ws ∧ ∀ o ∈ ws, zaG o w = true → o = w
theorem IsTop.again {ws qs : List (List WP)} (h : IsTop ws qs) : IsTop qs qs :=
 ⟨h.nd, fun w => ⟨fun hw => ⟨hw, fun o ho r => ((h.mem w).mp hw).2 o ((h.mem o).mp ho).1 r⟩, fun hw => hw.1⟩⟩
theorem IsTop.some {ws qs : List (List WP)} (h : IsTop ws qs) (h2 : 2 ≤ qs.length) : ∀ w ∈ qs, w ≠ [] := fun w hw e => by
 subst e
 have all : ∀ v ∈ qs, v = [] := fun v hv => (((h.mem v).mp hv).2 [] ((h.mem []).mp hw).1 rfl).symm
 match qs, h2, h.nd, all with
 | a :: b :: r, _, nd, all =>
  have e1 := all a List.mem_cons_self
  have e2 := all b (List.mem_cons_of_mem _ List.mem_cons_self)
  exact (List.nodup_cons.mp nd).1 (by rw [e1, e2]; exact List.mem_cons_self)
def SrtW (qs : List (List WP)) : Prop := qs.Pairwise fun x y => zdc y x = false
theorem zgQ {x y : List WP} (h1 : zdc x y = false) (h2 : zdc y x = false) : x = y := by
 by_cases e : x.map ky = y.map ky
 · exact List.map_inj_right (fun _ _ z => zkH z) |>.mp e
 · rcases sto_ky.tot _ _ e with z | z
   · rw [show zdc x y = true from z] at h1; cases h1
   · rw [show zdc y x = true from z] at h2; cases h2
theorem zdZ {ws qs qs' : List (List WP)} (h : IsTop ws qs) (h' : IsTop ws qs') (s : SrtW qs) (s' : SrtW qs') : qs = qs' :=
 List.Perm.eq_of_pairwise (fun a b _ _ h1 h2 => zgQ h2 h1) s s' ((List.perm_ext_iff_of_nodup h.nd h'.nd).mpr fun w => by rw [h.mem, h'.mem])
theorem IsTop.perm {ws qs qs' : List (List WP)} (h : IsTop ws qs) (p : qs'.Perm qs) : IsTop ws qs' := ⟨p.nodup_iff.mpr h.nd, fun w => by rw [p.mem_iff]; exact h.mem w⟩
theorem zka {ws us : List (List WP)} (nd : us.Nodup) (hm : ∀ w, w ∈ us ↔ w ∈ ws) (f : List WP → Bool) (hf : ∀ w ∈ us, f w = true ↔ ∀ o ∈ us, zaG o w = true → o = w) : IsTop ws (us.filter f) :=
 ⟨nd.filter _, fun w => by
  rw [List.mem_filter]
  constructor
  · rintro ⟨h1, h2⟩
    exact ⟨(hm w).mp h1, fun o ho => (hf w h1).mp h2 o ((hm o).mpr ho)⟩
  · rintro ⟨h1, h2⟩
    have h1 := (hm w).mpr h1
    exact ⟨h1, (hf w h1).mpr fun o ho => h2 o ((hm o).mp ho)⟩⟩
theorem zgX {w : List WP} {i : Nat} {p : WP} {f : Str} (e : w[i]? = some p) (hf : p.1 = f) (hn : ∀ q ∈ w.take i, q.1 ≠ f) : za6 w f = some p.2 := by
 have hi : i < w.length := (List.getElem?_eq_some_iff.mp e).1
 unfold za6
 have : w.find? (fun q => decide (q.1 = f)) = some p := by
  rw [← List.take_append_drop i w, List.find?_append, List.find?_eq_none.mpr fun q hq z => hn q hq (of_decide_eq_true z), List.drop_eq_getElem_cons hi]
  rw [show w[i] = p from (List.getElem?_eq_some_iff.mp e).2]
  rw [List.find?_cons_of_pos (by simpa using hf)]
  rfl
 rw [this]
 rfl
def lrP (p : WP) : PD := .tup [.str p.1, .bl p.2.1.isSome, .int (p.2.1.getD 0), .bl p.2.2.isNone, .int (p.2.2.getD 0)]
def lrD (w : List WP) : PD := .tup (w.map lrP)
def lrV (p : WP) : List V := [.str p.1, .bl p.2.1.isSome, .int (p.2.1.getD 0), .bl p.2.2.isNone, .int (p.2.2.getD 0)]
theorem zhe {K : PySem.W.Frag} {H : Hp} : ∀ qs : List (Addr × WP), (∀ q ∈ qs, H q.1 = some (.tup (lrV q.2))) → Reps K H ((qs.map (·.2)).map lrP) (qs.map fun q => V.ref q.1)
 | [], _ => by show Reps K H [] []; rw [Reps]
 | q :: qs, h => by
  show Reps K H (lrP q.2 :: _) (V.ref q.1 :: _)
  rw [Reps]
  refine ⟨_, _, rfl, ?_, zhe qs fun x hx => h x (List.mem_cons_of_mem _ hx)⟩
  unfold lrP
  rw [Rep]
  refine ⟨q.1, _, rfl, SqT.of (h q List.mem_cons_self), ?_⟩
  unfold lrV
  simp only [Reps, Rep]
  exact ⟨_, _, rfl, rfl, _, _, rfl, rfl, _, _, rfl, rfl, _, _, rfl, rfl, _, _, rfl, rfl, rfl⟩
theorem ziA (p q : WP) : pyEq (lrP p) (lrP q) = decide (ky p = ky q) := by
 obtain ⟨f, lo, hi⟩ := p
 obtain ⟨f', lo', hi'⟩ := q
 unfold lrP ky
 rw [pyEq, zaQ, zaQ, zaQ, zaQ, zaQ, zaQ, pyEq, pyEq, pyEq, pyEq, pyEq, Bool.eq_iff_iff]
 cases lo <;> cases lo' <;> cases hi <;> cases hi' <;> simp [lpO, hpO]
theorem ziy (p q : WP) (hn : ky p ≠ ky q) : pyLt (lrP p) (lrP q) = ltKy (ky p) (ky q) := by
 obtain ⟨f, lo, hi⟩ := p
 obtain ⟨f', lo', hi'⟩ := q
 unfold lrP ltKy lexP
 unfold ky at *
 rw [pyLt, zaZ, zaZ, zaZ, zaZ, zaZ, zaZ]
 simp only [pyEq, pyLt]
 by_cases h : f = f'
 · subst h
   cases lo <;> cases lo' <;> cases hi <;> cases hi' <;> simp [lpO, hpO, lt2, lexP, ltI] at hn ⊢ <;> (try split) <;> (try simp_all) <;> (try rfl) <;> (try (congr 1))
 · simp [h, ltS]
theorem ziM (p q : WP) : ltOk (lrP p) (lrP q) = true := by
 unfold lrP
 rw [ltOk, zbl, zbl, zbl, zbl, zbl, zbl]
 all_goals simp [ltOk]
theorem zgm : ∀ w w' : List WP, zbl (w.map lrP) (w'.map lrP) = true
 | [], w' => by rw [List.map_nil, zbl]; all_goals simp
 | x :: r, [] => by rw [List.map_nil, zbl]; all_goals simp
 | x :: r, y :: r' => by
  rw [List.map_cons, List.map_cons, zbl, ziM, zgm r r']
  simp
theorem zgf : ∀ w w' : List WP, zaZ (w.map lrP) (w'.map lrP) = lexL ltKy (w.map ky) (w'.map ky)
 | [], [] => by rw [List.map_nil, zaZ]; rfl
 | [], y :: r => by rw [List.map_nil, List.map_cons, zaZ]; rfl
 | x :: r, [] => by rw [List.map_nil, List.map_cons, zaZ]; rfl
 | x :: r, y :: r' => by
  rw [List.map_cons, List.map_cons, zaZ, ziA, zgf r r', List.map_cons, List.map_cons, lexL]
  by_cases h : ky x = ky y
  · rw [if_pos (decide_eq_true h), if_pos h]
  · rw [if_neg (by simpa using h), if_neg h, ziy x y h]
theorem zjE (w w' : List WP) : pyLt (lrD w) (lrD w') = zdc w w' := by
 unfold lrD zdc
 rw [pyLt, zgf]
theorem ziY (w : List WP) : zay (lrD w) ≤ 2 := by
 have : ∀ w : List WP, zaz (w.map lrP) ≤ 1 := fun w => by
  induction w with
  | nil => show zaz [] ≤ 1; rw [zaz]; omega
  | cons p w ih =>
   rw [List.map_cons, zaz]
   have : zay (lrP p) = 1 := by unfold lrP; simp [zay, zaz]
   omega
 unfold lrD
 rw [zay]
 have := this w
 omega
structure Dd (us ks : List (Addr × List WP)) : Prop where
 sub : ∀ k ∈ ks, k ∈ us
 nd : (ks.map (·.2)).Nodup
 mem : ∀ w, w ∈ ks.map (·.2) ↔ w ∈ us.map (·.2)
 len : ks.length ≤ us.length
theorem Dd.nil : Dd [] [] := ⟨fun _ h => h, List.nodup_nil, fun _ => Iff.rfl, Nat.le_refl _⟩
theorem Dd.put {us ks : List (Addr × List WP)} (h : Dd us ks) (x : Addr × List WP) : Dd (us ++ [x]) (putW ks x.1 x.2) := by
 unfold putW
 by_cases c : (ks.any fun k => decide (k.2 = x.2)) = true
 · rw [if_pos c]
   obtain ⟨k, hk, e⟩ := List.any_eq_true.mp c
   have e := of_decide_eq_true e
   have hx : x.2 ∈ us.map (·.2) := (h.mem _).mp (by rw [← e]; exact List.mem_map_of_mem hk)
   refine ⟨fun k hk => List.mem_append_left _ (h.sub k hk), h.nd, fun w => ?_, by rw [List.length_append]; have := h.len; omega⟩
   rw [h.mem, List.map_append, List.mem_append]
   refine ⟨.inl, fun z => z.elim id fun z => ?_⟩
   rw [List.map_cons, List.map_nil, List.mem_singleton] at z
   rw [z]
   exact hx
 · rw [if_neg c]
   have nx : x.2 ∉ ks.map (·.2) := fun hx => by
    obtain ⟨k, hk, e⟩ := List.mem_map.mp hx
    exact c (List.any_eq_true.mpr ⟨k, hk, decide_eq_true e⟩)
   refine ⟨fun k hk => ?_, ?_, fun w => ?_, by rw [List.length_append, List.length_append]; have := h.len; simp; omega⟩
   · rcases List.mem_append.mp hk with z | z
     · exact List.mem_append_left _ (h.sub k z)
     · exact List.mem_append_right _ z
   · rw [List.map_append, List.nodup_append]
     refine ⟨h.nd, by simp, fun a ha b hb e => ?_⟩
     rw [List.map_cons, List.map_nil, List.mem_singleton] at hb
     rw [e, hb] at ha
     exact nx ha
   · rw [List.map_append, List.map_append, List.mem_append, List.mem_append, h.mem]
theorem ze0 {α : Type} (f : α → Bool) (l : List α) : (l.filter f).isEmpty = !l.any f := by
 rw [Bool.eq_iff_iff]
 simp [List.isEmpty_iff, List.filter_eq_nil_iff]
def zaT (ks : List (Addr × List WP)) (w : List WP) : Bool := !(ks.any fun k => zaG k.2 w && !decide (k.2 = w))
theorem Dd.top {ws ks : List (Addr × List WP)} (h : Dd ws ks) : IsTop (ws.map (·.2)) ((ks.filter fun k => zaT ks k.2).map (·.2)) := by
 have := zka h.nd h.mem (zaT ks) fun w hw => by
  unfold zaT
  rw [Bool.not_eq_true', List.any_eq_false]
  constructor
  · intro z o ho r
    obtain ⟨k, hk, rfl⟩ := List.mem_map.mp ho
    have := z k hk
    rw [r] at this
    simpa using this
  · intro z k hk
    have := z k.2 (List.mem_map_of_mem hk)
    cases r : zaG k.2 w with
    | false => simp
    | true => simpa using this r
 rw [List.filter_map] at this
 exact this
theorem zgd {K : PySem.W.Frag} {sp : Sp} {H : Hp} {t : Addr} {qs : List (Addr × List WP)} {Q : VK} (D : List WP → PD) (hW : WsAt H t qs)
 (hsp : ∀ x ∈ qs, ∀ H1, Same H H1 → ∀ Q1 : VK, (∀ kv H2, Same H1 H2 → Rep K H2 (D x.2) kv → Q1 kv H2) → sp [.ref x.1] H1 Q1 E0) (hf : zf6 qs.length fun i => D (qs.getD i (0, [])).2)
 (hd : ∀ w, zay (D w) ≤ 20) (hok : ∀ w w', ltOk (D w) (D w') = true) (hlt : ∀ w w', pyLt (D w) (D w') = zdc w w')
 (q : ∀ (r : Addr) (rs : List (Addr × List WP)) (H' : Hp), Same H H' → H r = none → rs.Perm qs → SrtW (rs.map (·.2)) → H' r = some (.lst (rs.map fun x : Addr × List WP => V.ref x.1)) → Q (.ref r) H') : zcS K sp [.ref t] H Q := by
 have lm : (qs.map fun x => V.ref x.1).length = qs.length := List.length_map _
 have O : KS.Ord fun i j => pyLt (D (qs.getD i (0, [])).2) (D (qs.getD j (0, [])).2) := by
  have := sto_ky.ord fun i => (qs.getD i (0, [])).2.map ky
  simp only [hlt]
  exact this
 refine ⟨t, _, fun i => D (qs.getD i (0, [])).2, rfl, SqL.of hW.at', by rw [lm]; have := hW.len; omega, ?refs, ?cons, ?_, by rw [lm]; exact hf, fun i => hd _, fun i j _ _ => hok _ _, O, ?_⟩
 case refs =>
  intro v hv
  obtain ⟨x, _, rfl⟩ := List.mem_map.mp hv
  exact ⟨_, rfl⟩
 case cons =>
  intro i j hi hj e
  rw [lm] at hi hj
  rw [List.getElem?_map, List.getElem?_map] at e
  have ei : qs[i]? = some qs[i] := by simp
  have ej : qs[j]? = some qs[j] := by simp
  rw [ei, ej] at e
  have ea : qs[i].1 = qs[j].1 := by
   have := Option.some.inj e
   injection this
  have w1 := (hW.ok _ (List.mem_of_getElem? ei)).1
  have w2 := (hW.ok _ (List.mem_of_getElem? ej)).1
  rw [ea] at w1
  have := w1.inj w2
  show D (qs.getD i (0, [])).2 = D (qs.getD j (0, [])).2
  rw [List.getD_eq_getElem?_getD, List.getD_eq_getElem?_getD, ei, ej]
  show D qs[i].2 = D qs[j].2
  rw [this]
 · intro i v hv H2 s2 Q1 hQ
   rw [List.getElem?_map] at hv
   cases e1 : qs[i]? with
   | none => rw [e1] at hv; cases hv
   | some P1 =>
    rw [e1] at hv
    obtain rfl : V.ref P1.1 = v := Option.some.inj hv
    have e2 : qs.getD i (0, []) = P1 := by rw [List.getD_eq_getElem?_getD, e1]; rfl
    exact hsp P1 (List.mem_of_getElem? e1) H2 s2 Q1 fun v' H' s' r' => hQ v' H' s' (by show Rep K H' (D (qs.getD i (0, [])).2) v'; rw [e2]; exact r')
 · intro r p H' ok srt s2 nr e'
   rw [lm] at ok srt
   have hsz := ok.size
   have em : (p.toList.map fun i => (qs.map fun x => V.ref x.1).getD i .non) = (p.toList.map fun i => qs.getD i (0, [])).map fun x => V.ref x.1 := by
    rw [List.map_map]
    refine List.map_congr_left fun i hi => ?_
    have hi' : i < qs.length := List.mem_range.mp (ok.perm.mem_iff.mp hi)
    rw [ziS (fun x : Addr × List WP => V.ref x.1) (0, []) V.non qs hi']
    rfl
   rw [em] at e'
   refine q r _ H' s2 nr (ziG (0, []) ok) ?_ e'
   unfold SrtW
   rw [List.pairwise_map, List.pairwise_iff_getElem]
   intro i j hi hj hij
   simp only [List.length_map, Array.length_toList] at hi hj
   simp only [List.getElem_map, Array.getElem_toList]
   have h1 := srt i j hij (by omega)
   have k1 : KS.K p i = p[i] := by show p.getD i 0 = _; simp [Array.getD, hi]
   have k2 : KS.K p j = p[j] := by show p.getD j 0 = _; simp [Array.getD, hj]
   rw [k1, k2] at h1
   exact (hlt _ _).symm.trans h1
def zff : Sp := fun vs H Q _ => ∃ (a d : Addr) (w : List WP) (ks : List (Addr × List WP)), vs = [.ref a, .ref d] ∧ WishAt H a w ∧ WOk w ∧ zkY H d ks ∧ (∀ k ∈ ks, WOk k.2) ∧ ∀ H', Same H H' → Q (.bl (ks.any fun k => zaG k.2 w && !decide (k.2 = w))) H'
def zj4 (H : Hp) (r : Addr) (ws qs : List (Addr × List WP)) : Prop := H r = some (.lst (qs.map fun x => V.ref x.1)) ∧ (∀ x ∈ qs, x ∈ ws) ∧ IsTop (ws.map (·.2)) (qs.map (·.2)) ∧ qs.length ≤ ws.length
def zfg : Sp := fun vs H Q _ => ∃ (l : Addr) (ws : List (Addr × List WP)), vs = [.ref l] ∧ WsAt H l ws ∧ ∀ (r : Addr) (qs : List (Addr × List WP)) (H' : Hp), Same H H' → H r = none → zj4 H' r ws qs → Q (.ref r) H'
def zgv : Sp := fun vs H Q _ => ∃ (l : Addr) (ws : List (Addr × List WP)), vs = [.ref l] ∧ WsAt H l ws ∧ ∀ (r : Addr) (qs : List (Addr × List WP)) (H' : Hp), Same H H' → H r = none → zj4 H' r ws qs → SrtW (qs.map (·.2)) → Q (.ref r) H'
def zg2 : Sp := fun vs H Q _ => ∃ (a : Addr) (w : List WP) (f : Str), vs = [.ref a, .str f] ∧ WishAt H a w ∧ WOk w ∧ ∀ v H', Same H H' → (match za6 w f with | none => v = .non | some p => ∃ t, v = .ref t ∧ H' t = some (.tup [eV p.1, eV p.2])) → Q v H'
def zg4 : Sp := fun vs H Q _ => ∃ (a b : Addr) (w w' : List WP), vs = [.ref a, .ref b] ∧ WishAt H a w ∧ WishAt H b w' ∧ WOk w ∧ WOk w' ∧ ∀ H', Same H H' → Q (.bl (zaG w w')) H'
def zfk (K : PySem.W.Frag) : Sp := fun vs H Q _ => ∃ (a : Addr) (w : List WP), vs = [.ref a] ∧ WishAt H a w ∧ WOk w ∧ ∀ v H', Same H H' → Rep K H' (lrD w) v → Q v H'
theorem zit {K : PySem.W.Frag} {H H1 H' : Hp} {b g a : Addr} {xs : List V} (h : SqL K H a xs) (nb : H b = none) (ng : H g = none) (s1 : Same H H1) (s : SameB b g H1 H') : SqL K H' a xs := by
 have ne : ∀ o, H a = some o → a ≠ b ∧ a ≠ g := fun o e => ⟨fun z => (by rw [z, nb] at e; cases e), fun z => (by rw [z, ng] at e; cases e)⟩
 rcases h with (h | ⟨o, h⟩) | h
 · exact .inl (.inl (s _ _ (s1 _ _ h) (ne _ h).1 (ne _ h).2))
 · exact .inl (.inr ⟨o, s _ _ (s1 _ _ h) (ne _ h).1 (ne _ h).2⟩)
 · exact .inr h
theorem WsAt.upd {H : Hp} {l f : Addr} {ws : List (Addr × List WP)} {xs ys : List V} (h : WsAt H l ws) (n : l ≠ f) (e : H f = some (.lst xs)) : WsAt (upd H f (.lst ys)) l ws :=
 ⟨by rw [zak n]; exact h.at', fun x hx => ⟨(h.ok x hx).1.keep (zcB e), (h.ok x hx).2⟩, h.len⟩
end L2
set_option maxHeartbeats 4000000
namespace K10
open PySem PySem.Spec PyProof.Rows L2
def top (i : Nat) : Stmt := PySem.Challenge.pw_newsways_k10_the_greatest.main.body.getD i (.Pass ⟨0, 0, 0, 0⟩)
abbrev zcl : Stmt := top 4
abbrev zdj : Stmt := top 5
abbrev zcD : Stmt := top 6
abbrev zbc : Stmt := top 7
abbrev zbL : Stmt := top 10
abbrev zbe : Stmt := top 11
abbrev zaR : Stmt := top 12
abbrev zb4 : Stmt := top 13
abbrev zbg : Stmt := top 14
abbrev zbf : Stmt := top 15
abbrev zaO : Stmt := top 16
abbrev za7 : Stmt := top 17
abbrev zbr : Stmt := top 19
abbrev zbd : Stmt := top 20
abbrev zeH : Stmt := top 18
abbrev zcm : Stmt := top 24
abbrev zaU : Stmt := top 23
abbrev zcn : Stmt := top 22
abbrev zbw : Stmt := top 26
abbrev zcf : Stmt := top 27
abbrev zbK : Stmt := top 28
abbrev zbD : Stmt := top 29
abbrev zck : Stmt := top 30
abbrev zcj : Stmt := top 31
abbrev zcg : Stmt := top 32
abbrev zce : Stmt := top 33
abbrev zbC : Stmt := top 34
abbrev zci : Stmt := top 35
abbrev zbE : Stmt := top 36
abbrev zch : Stmt := top 37
abbrev zaH : Stmt := top 38
abbrev zbx : Stmt := top 39
abbrev zfs : Stmt := top 40
def zd0 (m : Nat) : Sp := fun vs H Q _ => ∃ (v v' : V) (d : DY), vs = [v, v'] ∧ m ≤ 9 ∧ RepY H d v ∧ RepY H d v' ∧ zaP d ≤ m ∧ ∀ H', Same H H' → Q (.bl true) H'
section
variable {P : Program} {w : World} {K : PySem.W.Frag} {mg : Str → Option Value} {base : Heap}
theorem scM {N P : List Str} {sc : Scope} (h1 : sc.kind = .function := by rfl) (h2 : sc.isCoroutine = false := by rfl) (h3 : sc.isGenerator = false := by rfl) (h4 : N.Nodup := by decide +kernel) (h5 : N.take P.length = P := by rfl) (h6 : ∀ x ∈ P, sc.names.lookup x = some .local ∨ sc.names.lookup x = some .cell := by decide +kernel) (h7 : ∀ y ∈ sc.names, y.2 ≠ .free := by decide +kernel) : FnScope N P sc := ⟨h1, h2, h3, h4, h5, h6, h7⟩
theorem zfp : FnScope ["thing"] ["thing"] (zag zcl) := scM
theorem zhc : FnScope ["thing"] ["thing"] (zag zdj) := scM
theorem sc_is_span : FnScope ["thing", "low", "high"] ["thing"] (zag zcD) := scM
theorem sc_span_reaches : FnScope ["one", "other", "low", "high", "other_low", "other_high", "reaches_down", "reaches_up"] ["one", "other"] (zag zbc) := scM
theorem zfq : FnScope ["thing"] ["thing"] (zag zbL) := scM
theorem sc_is_wish_part : FnScope ["thing", "field", "low", "high"] ["thing"] (zag zbe) := scM
theorem zde : FnScope ["parts"] ["parts"] (zag zaR) := scM
theorem zgw : FnScope ["thing"] ["thing"] (zag zb4) := scM
theorem zd7 : FnScope ["thing"] ["thing"] (zag zbg) := scM
theorem zds : FnScope ["thing"] ["thing"] (zag zbf) := scM
theorem zcR : FnScope ["wish"] ["wish"] (zag zaO) := scM
theorem sc_reaches_spans : FnScope ["one", "other_spans", "field", "low", "high"] ["one", "other_spans"] (zag za7) := scM
theorem zdL : FnScope ["low"] ["low"] (zag zbr) := scM
theorem zdr : FnScope ["high"] ["high"] (zag zbd) := scM
theorem zjy : FnScope ["wish"] ["wish"] (zag zeH) := scM
theorem sc_is_under : FnScope ["wish", "others", "spans", "other"] ["wish", "others"] (zag zcm) := scM
theorem sc_greatest_of : FnScope ["wishes", "unlike"] ["wishes"] (zag zaU) := scM
theorem zfr : FnScope ["wishes"] ["wishes"] (zag zcn) := scM
theorem sc_law_well : FnScope ["script", "great", "small", "seed", "number"] ["script"] (zag zbw) := scM
theorem sc_law_take : FnScope ["well", "many", "number", "cell"] ["well", "many"] (zag zcf) := scM
theorem sc_law_name : FnScope ["well", "most", "letters"] ["well", "most"] (zag zbK) := scM
theorem sc_law_fields : FnScope ["well", "many", "letters", "found", "k", "pick", "first", "letter", "at", "word"] ["well", "many"] (zag zbD) := scM
theorem sc_law_base : FnScope ["well", "pick", "sign", "number"] ["well"] (zag zck) := scM
theorem sc_law_grid : FnScope ["well", "pick", "size"] ["well"] (zag zcj) := scM
theorem sc_law_span : FnScope ["well", "grid", "wide", "pick", "low", "high"] ["well", "grid", "wide"] (zag zcg) := scM
theorem sc_law_wish : FnScope ["well", "names", "grid", "wide", "parts", "field", "low", "high"] ["well", "names", "grid", "wide"] (zag zce) := scM
theorem sc_law_wishes : FnScope ["well", "names", "grid", "wide", "many", "found", "k", "pick", "wish", "old", "at"] ["well", "names", "grid", "wide", "many"] (zag zbC) := scM
theorem sc_law_part : FnScope ["wish", "field", "other", "low", "high"] ["wish", "field"] (zag zci) := scM
theorem sc_law_covers : FnScope ["one", "other", "field", "low", "high", "there"] ["one", "other"] (zag zbE) := scM
theorem sc_law_rank : FnScope ["wish", "found", "field", "low", "high"] ["wish"] (zag zch) := scM
theorem sc_law_greatest : FnScope ["wishes", "some", "wish", "top"] ["wishes"] (zag zaH) := scM
theorem zc2 : FnScope ["found", "due"] ["found", "due"] (zag zbx) := scM
theorem sc_law : FnScope ["script", "well", "large", "wide", "many", "most", "names", "grid", "wishes", "handed", "due", "found", "again"] ["script"] (zag zfs) := scM
section
variable (P : Program) (w : World) (K : PySem.W.Frag) (mg : Str → Option Value) (base : Heap)
abbrev Γ0 := FnH P w K mg base 1 "is_whole" ["thing"] (zfe K)
abbrev Γ1 := FnH P w K mg base 2 "is_end" ["thing"] (zjv K)
abbrev Γ4 := FnH P w K mg base 1 "is_field" ["thing"] (zfl)
abbrev Γ2 := FnH P w K mg base 3 "is_span" ["thing"] (zd2 K)
abbrev Γ6 := FnH P w K mg base 1 "fields_ascend" ["parts"] (zd4)
abbrev Γ5 := FnH P w K mg base 4 "is_wish_part" ["thing"] (zcP)
abbrev Γ7 := FnH P w K mg base 5 "is_wish" ["thing"] (zd1)
abbrev Γ8 := FnH P w K mg base 6 "are_wishes" ["thing"] (zfm)
abbrev Γ3 := FnH P w K mg base 1 "span_reaches" ["one", "other"] (zfi)
abbrev Γ12 := FnH P w K mg base 1 "rank_of_low" ["low"] (zg1)
abbrev Γ13 := FnH P w K mg base 1 "rank_of_high" ["high"] (zfj)
abbrev Γ10 := FnH P w K mg base 1 "spans_by_field" ["wish"] (zdo)
abbrev Γ11 := FnH P w K mg base 2 "reaches_spans" ["one", "other_spans"] (zdp)
abbrev Γ15 := FnH P w K mg base 3 "is_under" ["wish", "others"] (zff)
abbrev Γ9 := FnH P w K mg base 7 "check_wishes" ["thing"] (zd3)
abbrev Γ16 := FnH P w K mg base 4 "greatest_of" ["wishes"] (zfg)
abbrev Γ14 := FnH P w K mg base 2 "rank" ["wish"] (zg0 K)
abbrev Γ19 := FnH P w K mg base 1 "_law_take" ["well", "many"] (zgZ)
abbrev Γ20 := FnH P w K mg base 2 "_law_name" ["well", "most"] (zg3)
abbrev Γ22 := FnH P w K mg base 2 "_law_base" ["well"] (zg6)
abbrev Γ24 := FnH P w K mg base 2 "_law_span" ["well", "grid", "wide"] (zfh)
abbrev Γ25 := FnH P w K mg base 3 "_law_wish" ["well", "names", "grid", "wide"] (zfd)
abbrev Γ27 := FnH P w K mg base 1 "_law_part" ["wish", "field"] (zg2)
abbrev Γ29 := FnH P w K mg base 1 "_law_rank" ["wish"] (zfk K)
abbrev Γ28 := FnH P w K mg base 2 "_law_covers" ["one", "other"] (zg4)
abbrev Γ18 := FnH P w K mg base 1 "_law_well" ["script"] (zgY K)
abbrev Γ21 := FnH P w K mg base 3 "_law_fields" ["well", "many"] (zdq)
abbrev Γ23 := FnH P w K mg base 3 "_law_grid" ["well"] (zg5)
abbrev Γ26 := FnH P w K mg base 4 "_law_wishes" ["well", "names", "grid", "wide", "many"] (zdn)
abbrev Γ30 := FnH P w K mg base 4 "_law_greatest" ["wishes"] (zgv)
abbrev Γ17 := FnH P w K mg base 8 "greatest" ["wishes"] (zgv)
abbrev Γ31 := FnH P w K mg base 11 "_law_alike" ["found", "due"] (zga 9 zd0)
end
theorem zq2 : 2 ≤ sizeLine := by decide
theorem zq3 : 3 ≤ sizeLine := by decide
variable {f : Addr} {fd : FuncData} (B : Bl mg) {t_MOST_LETTERS : Tok} (C_MOST_LETTERS : mg "MOST_LETTERS" = some (.int 8 t_MOST_LETTERS))
include B C_MOST_LETTERS
theorem zfE (F : Fun K "is_whole" "is_whole" zcl f fd)  : FnOk P w K mg base CX0 1 f fd ["thing"] (zfe K) := by
 refine F.ok zfp (fun vs H Q E h => ?_) (fun cdv A outer s H vs Q E hr h => ?_)
 · obtain ⟨v, t, rfl, hty, q⟩ := h
   rfl
 obtain ⟨v, t, rfl, hty, q⟩ := h
 refine ⟨_, (zah (zap (zcv (zai (zaw (n := "")) rfl B.isinstance_ zal (zaa (pv 0) (zaa (zaL (v := .ty "int") rfl B.int_ zic rfl) zac))) (zbG (zks (zai (zaw (n := "")) rfl B.isinstance_ zal (zaa (pv 0) (zaa (zaL (v := .ty "bool") rfl B.bool_ zf2 rfl) zac)))))))), ?_⟩
 cases hty
 all_goals first
  | exact ⟨_, rfl, _, "int", "int", true, rfl, .int _, rfl, _, rfl, iteT ⟨_, rfl, _, "int", "bool", false, rfl, .int _, rfl, _, rfl, q⟩⟩
  | exact ⟨_, rfl, _, "bool", "int", true, rfl, .bl _, rfl, _, rfl, iteT ⟨_, rfl, _, "bool", "bool", true, rfl, .bl _, rfl, _, rfl, q⟩⟩
  | exact ⟨_, rfl, _, _, "int", false, rfl, (by first | exact .non | exact .str _ | exact .flt _ | (exact .lst (by assumption)) | (exact .frz (by assumption)) | (exact .tup (by assumption)) | (exact .dK (by assumption)) | (exact .dT (by assumption))), rfl, _, rfl, iteF q⟩
theorem zhy (F : Fun K "is_end" "is_end" zdj f fd) (G_is_whole : Γ0 P w K mg base) : FnOk P w K mg base CX0 2 f fd ["thing"] (zjv K) := by
 refine F.ok zhc (fun vs H Q E h => ?_) (fun cdv A outer s H vs Q E hr h => ?_)
 · obtain ⟨v, t, rfl, hty, q⟩ := h
   rfl
 obtain ⟨v, t, rfl, hty, q⟩ := h
 refine ⟨_, (zah (zap (zhp (zb9 (zbi (pv 0))) (zbG (zau G_is_whole (hr.mono (by decide)) rfl (zaa (pv 0) zac)))))), ?_⟩
 refine ⟨_, rfl, _, rfl, ?_⟩
 cases hty
 case non => exact iteT q
 all_goals refine iteF ?_
 case int i => exact ⟨_, rfl, _, _, rfl, .int _, q⟩
 all_goals exact ⟨_, rfl, _, _, rfl, (by first | exact .bl _ | exact .str _ | exact .flt _ | (exact .lst (by assumption)) | (exact .frz (by assumption)) | (exact .tup (by assumption)) | (exact .dK (by assumption)) | (exact .dT (by assumption))), q⟩
theorem zgF (F : Fun K "is_span" "is_span" zcD f fd) (G_is_end : Γ1 P w K mg base) : FnOk P w K mg base CX0 3 f fd ["thing"] (zd2 K) := by
 refine F.ok sc_is_span (fun vs H Q E h => ?_) (fun cdv A outer s H vs Q E hr h => ?_)
 · obtain ⟨v, t, rfl, hty, hp, q⟩ := h
   rfl
 obtain ⟨v, t, rfl, hty, hp, q⟩ := h
 refine ⟨_, (zab (zaW (PW.pt (zdf (zby (zba (zai (zaw (n := "")) rfl B.isinstance_ zal (zaa (pv 0) (zaa (zaL (v := .ty "tuple") rfl B.tuple_ zbW rfl) zac))))) (zbY (zax zhv (zai zaC rfl B.len_ zbN (zaa (pv 0) zac)) zae (zaA _))))) (zah (zap zb3)) zas)
  (zab (zc6 (pv 0) (zcu rfl (zaq (zaj (i := 1) sc_is_span.nd rfl (Or.inl rfl)) (zaq (zaj (i := 2) sc_is_span.nd rfl (Or.inl rfl)) zbm))))
  (zab (zaW (PW.pt (zdf (zby (zba (zau G_is_end (hr.mono (by decide)) rfl (zaa (pv 1) zac)))) (zbY (zby (zba (zau G_is_end (hr.mono (by decide)) rfl (zaa (pv 2) zac))))))) (zah (zap zb3)) zas)
  (zah (zap (zhp (zb9 (zbi (pv 1))) (zhp (zb9 (zbi (pv 2))) (zbG (zb8 zhx (pv 1) (pv 2) (zaA _)))))))))), ?_⟩
 have q0 : zbo H v = false → Q (.bl false) H := fun h => by rw [← h]; exact q
 cases hty
 case tup a xs e =>
  refine ⟨_, rfl, _, "tuple", "tuple", true, rfl, .tup e, rfl, _, rfl, iteF ⟨_, rfl, a, _, rfl, .inr (SqT.of e), rfl, _, rfl, ?_⟩⟩
  by_cases hl : xs.length = 2
  · match xs, hl with
    | [x, y], _ =>
     refine iteF ⟨_, rfl, a, _, rfl, SqT.of e, rfl, _, _, rfl, _, _, rfl, rfl, ?_⟩
     obtain ⟨t1, t2, h1, h2⟩ := hp a x y rfl e
     have es : zbo H (.ref a) = (endV x && endV y && leV x y) := by unfold zbo; simp only [e]
     rw [es] at q
     refine ⟨_, rfl, _, _, rfl, h1, _, rfl, ?_⟩
     cases ex : endV x with
     | false =>
      rw [ex] at q
      exact iteT q
     | true =>
      rw [ex] at q
      refine iteF ⟨_, rfl, _, _, rfl, h2, _, rfl, ?_⟩
      cases ey : endV y with
      | false =>
       rw [ey] at q
       exact iteT q
      | true =>
       rw [ey] at q
       refine iteF ⟨_, rfl, _, rfl, ?_⟩
       cases x with
       | non => exact iteT q
       | int i =>
        refine iteF ⟨_, rfl, _, rfl, ?_⟩
        cases y with
        | non => exact iteT q
        | int j => exact iteF ⟨_, rfl, _, rfl, _, _, rfl, rfl, q⟩
        | _ => exact absurd ey Bool.false_ne_true
       | _ => exact absurd ex Bool.false_ne_true
  · have es : zbo H (.ref a) = false := by
     unfold zbo
     simp only [e]
     match xs, hl with
     | [], _ => rfl
     | [_], _ => rfl
     | [_, _], h => exact absurd rfl h
     | _ :: _ :: _ :: _, _ => rfl
    have ed : (!decide (V.int ((xs.length : Nat) : Int) = V.int 2)) = true := by
     have : ¬ V.int ((xs.length : Nat) : Int) = V.int 2 := fun z => by injection z with z; omega
     rw [decide_eq_false this]
     rfl
    rw [es] at q
    show if (!decide (V.int ((xs.length : Nat) : Int) = V.int 2)) = true then _ else _
    rw [ed]
    exact iteT q
 case non => exact ⟨_, rfl, _, _, "tuple", false, rfl, .non, rfl, _, rfl, iteT (q0 rfl)⟩
 case bl b => exact ⟨_, rfl, _, _, "tuple", false, rfl, (.bl b), rfl, _, rfl, iteT (q0 rfl)⟩
 case int i => exact ⟨_, rfl, _, _, "tuple", false, rfl, (.int i), rfl, _, rfl, iteT (q0 rfl)⟩
 case str x => exact ⟨_, rfl, _, _, "tuple", false, rfl, (.str x), rfl, _, rfl, iteT (q0 rfl)⟩
 case flt x => exact ⟨_, rfl, _, _, "tuple", false, rfl, (.flt x), rfl, _, rfl, iteT (q0 rfl)⟩
 case lst a xs e => exact ⟨_, rfl, _, _, "tuple", false, rfl, (.lst e), rfl, _, rfl, iteT (q0 (by unfold zbo; simp only [e]))⟩
 case frz a o xs e => exact ⟨_, rfl, _, _, "tuple", false, rfl, (.frz e), rfl, _, rfl, iteT (q0 (by unfold zbo; simp only [e]))⟩
 case dK a kvs e => exact ⟨_, rfl, _, _, "tuple", false, rfl, (.dK e), rfl, _, rfl, iteT (q0 (by unfold zbo; simp only [e]))⟩
 case dT a kvs e => exact ⟨_, rfl, _, _, "tuple", false, rfl, (.dT e), rfl, _, rfl, iteT (q0 (by unfold zbo; simp only [e]))⟩
theorem zdz (F : Fun K "span_reaches" "span_reaches" zbc f fd)  : FnOk P w K mg base CX0 1 f fd ["one", "other"] (zfi) := by
 refine F.ok sc_span_reaches (fun vs H Q E h => ?_) (fun cdv A outer s H vs Q E hr h => ?_)
 · obtain ⟨v, w, lo, hi, lo2, hi2, rfl, S1, S2, q⟩ := h
   rfl
 obtain ⟨v, w, lo, hi, lo2, hi2, rfl, S1, S2, q⟩ := h
 refine ⟨_, (zab (zc6 (pv 0) (zcu rfl (zaq (zaj (i := 2) sc_span_reaches.nd rfl (Or.inl rfl)) (zaq (zaj (i := 3) sc_span_reaches.nd rfl (Or.inl rfl)) zbm))))
  (zab (zc6 (pv 1) (zcu rfl (zaq (zaj (i := 4) sc_span_reaches.nd rfl (Or.inl rfl)) (zaq (zaj (i := 5) sc_span_reaches.nd rfl (Or.inl rfl)) zbm))))
  (zab (zao (i := 6) sc_span_reaches.nd rfl (Or.inl rfl) (zhp (zb9 (zbi (pv 2))) (zbG (zcv (zb9 (zdx (pv 4))) (zbG (zb8 zhx (pv 2) (pv 4) (zaA _)))))))
  (zab (zao (i := 7) sc_span_reaches.nd rfl (Or.inl rfl) (zhp (zb9 (zbi (pv 3))) (zbG (zcv (zb9 (zdx (pv 5))) (zbG (zb8 zhx (pv 5) (pv 3) (zaA _)))))))
  (zah (zap (zcv (pv 6) (zbG (pv 7))))))))), ?_⟩
 obtain ⟨a, rfl, e1⟩ := S1
 obtain ⟨c, rfl, e2⟩ := S2
 refine ⟨_, rfl, a, _, rfl, SqT.of e1, rfl, _, _, rfl, _, _, rfl, rfl, ?_⟩
 refine ⟨_, rfl, c, _, rfl, SqT.of e2, rfl, _, _, rfl, _, _, rfl, rfl, ?_⟩
 cases lo <;> cases lo2 <;> cases hi <;> cases hi2
 all_goals
  refine ⟨_, rfl, _, rfl, ?_⟩
  first
   | refine iteT ?_
   | (refine iteF ⟨_, rfl, _, rfl, ?_⟩; first | refine iteF ?_ | refine iteT ⟨_, rfl, _, rfl, _, _, rfl, rfl, ?_⟩)
  refine ⟨_, rfl, _, rfl, ?_⟩
  first
   | refine iteT ?_
   | (refine iteF ⟨_, rfl, _, rfl, ?_⟩; first | refine iteF ?_ | refine iteT ⟨_, rfl, _, rfl, _, _, rfl, rfl, ?_⟩)
  refine ⟨_, rfl, _, rfl, ?_⟩
  first
   | exact iteF q
   | exact iteT ⟨_, rfl, q⟩
   | exact ite2 (fun h => ⟨_, rfl, by rw [zb5, zet, h] at q; exact q⟩) (fun h => by rw [zb5, zet, Bool.eq_false_iff.mpr h] at q; exact q)
theorem zfG (F : Fun K "is_field" "is_field" zbL f fd)  : FnOk P w K mg base CX0 1 f fd ["thing"] (zfl) := by
 refine F.ok zfq (fun vs H Q E h => ?_) (fun cdv A outer s H vs Q E hr h => ?_)
 · obtain ⟨x, rfl, F1, q⟩ := h
   rfl
 obtain ⟨x, rfl, F1, q⟩ := h
 refine ⟨_, (zab (zaW (PW.pt (zdf (zby (zba (zai (zaw (n := "")) rfl B.isinstance_ zal (zaa (pv 0) (zaa (zaL (v := .ty "str") rfl B.str_ zib rfl) zac))))) (zbY (zby (ziB zhx zhx zae (zai zda rfl B.len_ zbN (zaa (pv 0) zac)) (zhq (v := .int 8) rfl C_MOST_LETTERS ⟨_, rfl⟩)))))) (zah (zap zb3)) zas)
  (zah (zap (zai (zcN rfl) rfl B.all_ ze6 (zaa (zed (N' := ["sign"]) (js := [none]) rfl (zcL (N := ["thing"]) (outer := zag zbL) (by decide +kernel)) (zkq (pv 0)) (fun _ _ _ _ _ => (zaj (i := 0) (show List.Nodup (["sign"] : List Str) by decide +kernel) rfl (Or.inl rfl))) (fun _ _ _ _ _ => zbt) (fun _ _ _ _ _ => (ziH zeR zeR zeL (pv 0) zeL))) zac))))), ?_⟩
 have l1 : (1 : Int) ≤ (x.length : Int) := by have := F1.one; omega
 have l8 : (x.length : Int) ≤ 8 := by have := F1.eight; omega
 refine ⟨_, rfl, _, "str", "str", true, rfl, .str x, rfl, _, rfl, iteF ⟨_, rfl, x, rfl, zkg (by have := F1.eight; omega), _, _, rfl, rfl, _, rfl, ?_⟩⟩
 rw [decide_eq_true l1]
 refine iteT ⟨_, _, rfl, rfl, _, rfl, ?_⟩
 rw [decide_eq_true l8]
 refine iteF ⟨_, rfl, x, rfl, fun p hp => ?_⟩
 have s0 := zaf hp (.lst [])
 have sl : (L2.signs x).length = x.length := by unfold L2.signs; rw [List.length_map, Array.length_toList]; rfl
 refine zkG (xs := L2.signs x) (fun i σ' ys H' => (∃ v, σ' = [v]) ∧ Same H H' ∧ H' p = some (.lst ys) ∧ ys = List.replicate i (V.bl true)) ⟨⟨none, rfl⟩, s0, zad, rfl⟩ ?_ ?_ ?_
 · rintro i σ' ys H' hi ⟨_, _, h1, h2⟩
   refine ⟨h1, ?_⟩
   rw [h2, List.length_replicate]
   have := F1.eight
   exact zav (by omega)
 · rintro i y σ' ys H' N hy ⟨⟨v, rfl⟩, s, h1, h2⟩ hN
   unfold L2.signs at hy
   rw [List.getElem?_map] at hy
   cases hc : x.cps.toList[i]? with
   | none => rw [hc] at hy; cases hy
   | some c =>
    rw [hc] at hy
    obtain rfl : V.str ⟨#[c]⟩ = y := Option.some.inj hy
    have ok := F1.all c (List.mem_of_getElem? hc)
    refine ⟨_, rfl, _, _, rfl, rfl, _, rfl, ?_⟩
    rw [ge_a ok]
    refine iteT ⟨_, _, rfl, rfl, ?_⟩
    rw [le_z ok]
    refine ⟨h1, hN _ _ _ ⟨⟨_, rfl⟩, ?_, zad, by rw [h2]; exact List.replicate_succ'.symm⟩⟩
    intro b o q'
    have : b ≠ p := fun z => by rw [z, hp] at q'; cases q'
    rw [zak this]
    exact s b o q'
 · rintro σ' ys H' ⟨_, s, h1, h2⟩
   refine ⟨p, List.replicate (L2.signs x).length true, rfl, SqL.of (by rw [h1, h2, List.map_replicate]), ?_⟩
   have : (List.replicate (L2.signs x).length true).all id = true := by simp
   rw [this]
   exact q H' s
theorem zdC (F : Fun K "is_wish_part" "is_wish_part" zbe f fd) (G_is_field : Γ4 P w K mg base) (G_is_span : Γ2 P w K mg base) : FnOk P w K mg base CX0 4 f fd ["thing"] (zcP) := by
 refine F.ok sc_is_wish_part (fun vs H Q E h => ?_) (fun cdv A outer s H vs Q E hr h => ?_)
 · obtain ⟨p, f, lo, hi, rfl, hp, F1, hle, q⟩ := h
   rfl
 obtain ⟨p, f, lo, hi, rfl, hp, F1, hle, q⟩ := h
 refine ⟨_, (zab (zaW (PW.pt (zdf (zby (zba (zai (zaw (n := "")) rfl B.isinstance_ zal (zaa (pv 0) (zaa (zaL (v := .ty "tuple") rfl B.tuple_ zbW rfl) zac))))) (zbY (zax zhv (zai zaC rfl B.len_ zbN (zaa (pv 0) zac)) zae (zaA _))))) (zah (zap zb3)) zas)
  (zab (zc6 (pv 0) (zcu rfl (zaq (zaj (i := 1) sc_is_wish_part.nd rfl (Or.inl rfl)) (zaq (zaj (i := 2) sc_is_wish_part.nd rfl (Or.inl rfl)) (zaq (zaj (i := 3) sc_is_wish_part.nd rfl (Or.inl rfl)) zbm)))))
  (zah (zap (zcv (zau G_is_field (hr.mono (by decide)) rfl (zaa (pv 1) zac)) (zbG (zau G_is_span (hr.mono (by decide)) rfl (zaa (za9 (zaa (pv 2) (zaa (pv 3) zac))) zac)))))))), ?_⟩
 refine ⟨_, rfl, _, "tuple", "tuple", true, rfl, .tup hp, rfl, _, rfl, iteF ⟨_, rfl, p, _, rfl, .inr (SqT.of hp), rfl, _, rfl, ?_⟩⟩
 refine iteF ⟨_, rfl, p, _, rfl, SqT.of hp, rfl, _, _, rfl, _, _, rfl, _, _, rfl, rfl, ?_⟩
 refine ⟨_, rfl, f, rfl, F1, fun H1 s1 => ⟨_, rfl, iteT ⟨_, rfl, _, rfl, zq2, fun t ht => ?_⟩⟩⟩
 have S : SpanAt (upd H1 t (.tup [eV lo, eV hi])) (.ref t) lo hi := ⟨t, rfl, zad⟩
 refine ⟨.ref t, "tuple", rfl, S.ty.1, S.ty.2, ?_⟩
 rw [zhO S, hle]
 exact q _ (s1.trans (zaf ht _))
theorem zdh (F : Fun K "fields_ascend" "fields_ascend" zaR f fd)  : FnOk P w K mg base CX0 1 f fd ["parts"] (zd4) := by
 refine F.ok zde (fun vs H Q E h => ?_) (fun cdv A outer s H vs Q E hr h => ?_)
 · obtain ⟨a, ps, rfl, ha, hl, hp, hlt, q⟩ := h
   rfl
 obtain ⟨a, ps, rfl, ha, hl, hp, hlt, q⟩ := h
 refine ⟨_, (zah (zap (zai (zcN rfl) rfl B.all_ ze6 (zaa (zed (N' := ["ahead", "behind"]) (js := [none, none]) rfl (zcL (N := ["parts"]) (outer := zag zaR) (by decide +kernel)) (zkp rfl B.zip_ (zaa (pv 0) (zaa (zbF zg8 (pv 0) (zb6 zae) zb7) zac))) (fun _ _ _ _ _ => (zfu K rfl (n := 2) rfl (zaq (zaj (i := 0) (show List.Nodup (["ahead", "behind"] : List Str) by decide +kernel) rfl (Or.inl rfl)) (zaq (zaj (i := 1) (show List.Nodup (["ahead", "behind"] : List Str) by decide +kernel) rfl (Or.inl rfl)) zbm)))) (fun _ _ _ _ _ => zbt) (fun _ _ _ _ _ => (zb8 zhw (zaX (zhM K rfl) (pv 0) zae (fun _ _ => rfl)) (zaX (zhM K rfl) (pv 1) zae (fun _ _ => rfl)) (zaA _)))) zac)))), ?_⟩
 refine ⟨_, rfl, _, rfl, _, rfl, ?_⟩
 dsimp only [zgV]
 refine zjw (SqT.of ha) fun p1 H1 s1 q1 => ?_
 refine ⟨a, p1, rfl, ⟨_, s1.seqT (SqT.of ha)⟩, ⟨_, q1⟩, fun p hp' => ?_⟩
 have s0 := zaf hp' (.lst [])
 have ld : ((ps.map fun p => V.ref p.1).drop 1).length = ps.length - 1 := by rw [List.length_drop, List.length_map]
 refine zkE (n := ps.length - 1) (xs := ps.map fun p => V.ref p.1) (ys := (ps.map fun p => V.ref p.1).drop 1) (by rw [List.length_map]; omega) (by rw [ld]; exact Nat.le_refl _) (.inr (by rw [ld]; exact Nat.le_refl _))
  (fun i σ' ys H' => (∃ v w, σ' = [v, w]) ∧ Same H1 H' ∧ H' p = some (.lst ys) ∧ ys = List.replicate i (V.bl true)) ⟨⟨none, none, rfl⟩, s0, zad, rfl⟩ ?_ ?_ ?_
 · rintro i σ' zs H' hi ⟨_, s, h1, h2⟩
   refine ⟨(s1.trans s).seqT (SqT.of ha), s.seqT q1, h1, ?_⟩
   rw [h2, List.length_replicate]
   exact zav (by omega)
 · rintro i x y σ' zs H' r N hx hy hr' ⟨⟨v, w', rfl⟩, s, h1, h2⟩ hN
   rw [List.getElem?_map] at hx
   rw [List.getElem?_drop, List.getElem?_map, Nat.add_comm] at hy
   cases e1 : ps[i]? with
   | none => rw [e1] at hx; cases hx
   | some P1 =>
    cases e2 : ps[i + 1]? with
    | none => rw [e2] at hy; cases hy
    | some P2 =>
     rw [e1] at hx
     rw [e2] at hy
     obtain rfl : V.ref P1.1 = x := Option.some.inj hx
     obtain rfl : V.ref P2.1 = y := Option.some.inj hy
     have s3 := zaf hr' (.tup [V.ref P1.1, V.ref P2.1])
     have t3 := (s1.trans s).trans s3
     have f1 := t3 _ _ (hp P1 (List.mem_of_getElem? e1))
     have f2 := t3 _ _ (hp P2 (List.mem_of_getElem? e2))
     refine ⟨r, _, rfl, SqT.of zad, rfl, _, _, rfl, _, _, rfl, rfl, ?_⟩
     refine ⟨_, rfl, P1.1, _, 0, _, rfl, rfl, SqT.of f1, at0, _, rfl, P2.1, _, 0, _, rfl, rfl, SqT.of f2, at0, _, _, rfl, rfl, ?_⟩
     rw [decide_eq_true (show P1.2.1.cps.toList < P2.2.1.cps.toList from hlt i P1 P2 e1 e2)]
     refine ⟨s3 _ _ h1, hN _ _ _ ⟨⟨_, _, rfl⟩, ?_, zad, by rw [h2]; exact List.replicate_succ'.symm⟩⟩
     intro b o q'
     have : b ≠ p := fun z => by rw [z, hp'] at q'; cases q'
     rw [zak this]
     exact s3 _ _ (s b o q')
 · rintro σ' zs H' ⟨_, s, h1, h2⟩
   refine ⟨p, List.replicate (ps.length - 1) true, rfl, SqL.of (by rw [h1, h2, List.map_replicate]), ?_⟩
   have : (List.replicate (ps.length - 1) true).all id = true := by simp
   rw [this]
   exact q H' (s1.trans s)
theorem zgE (F : Fun K "is_wish" "is_wish" zb4 f fd) (G_fields_ascend : Γ6 P w K mg base) (G_is_wish_part : Γ5 P w K mg base) : FnOk P w K mg base CX0 5 f fd ["thing"] (zd1) := by
 refine F.ok zgw (fun vs H Q E h => ?_) (fun cdv A outer s H vs Q E hr h => ?_)
 · obtain ⟨a, w', rfl, hw, wok, q⟩ := h
   rfl
 obtain ⟨a, w', rfl, hw, wok, q⟩ := h
 refine ⟨_, (zab (zaW (zby (zba (zai (zaw (n := "")) rfl B.isinstance_ zal (zaa (pv 0) (zaa (zaL (v := .ty "tuple") rfl B.tuple_ zbW rfl) zac))))) (zah (zap zb3)) zas)
  (zah (zap (zcv (zai (zcN rfl) rfl B.all_ ze6 (zaa (zed (N' := ["part"]) (js := [none]) rfl (zcL (N := ["thing"]) (outer := zag zb4) (by decide +kernel)) (zdw (pv 0)) (fun _ _ _ _ _ => (zaj (i := 0) (show List.Nodup (["part"] : List Str) by decide +kernel) rfl (Or.inl rfl))) (fun _ _ _ _ _ => zbt) (fun _ _ _ _ _ => (zau G_is_wish_part (hr.mono (by decide)) rfl (zaa (pv 0) zac)))) zac)) (zbG (zau G_fields_ascend (hr.mono (by decide)) rfl (zaa (pv 0) zac))))))), ?_⟩
 obtain ⟨ps, rfl, hA, hP⟩ := hw
 have ll : ps.length ≤ 100 := by have := wok.len; rw [List.length_map] at this; exact this
 refine ⟨_, rfl, _, "tuple", "tuple", true, rfl, .tup hA, rfl, _, rfl, iteF ?_⟩
 refine ⟨_, rfl, a, rfl, ⟨_, SqT.of hA⟩, fun p hp => ?_⟩
 refine zjd (xs := ps.map fun p => V.ref p.1) (fun i σ' ys H' => (∃ v, σ' = [v]) ∧ Same H H' ∧ H' p = some (.lst ys) ∧ ys = List.replicate i (V.bl true)) ⟨⟨none, rfl⟩, zaf hp _, zad, rfl⟩ ?_ ?_ ?_
 · rintro i σ' ys H' hi ⟨_, s, h1, h2⟩
   refine ⟨s.seqT (SqT.of hA), h1, ?_⟩
   rw [h2, List.length_replicate]
   rw [List.length_map] at hi
   exact zav (by omega)
 · rintro i x σ' ys H' N hx ⟨⟨v, rfl⟩, s, h1, h2⟩ hN
   rw [List.getElem?_map] at hx
   cases e1 : ps[i]? with
   | none => rw [e1] at hx; cases hx
   | some P1 =>
    rw [e1] at hx
    obtain rfl : V.ref P1.1 = x := Option.some.inj hx
    have hm := List.mem_of_getElem? e1
    obtain ⟨o1, o2⟩ := wok.ok P1.2 (List.mem_map_of_mem hm)
    refine ⟨_, rfl, P1.1, P1.2.1, P1.2.2.1, P1.2.2.2, rfl, s _ _ (hP P1 hm), o1, o2, fun H2 s2 => ?_⟩
    refine ⟨s2 _ _ h1, hN _ _ _ ⟨⟨_, rfl⟩, za5 (s.trans s2) hp, zad, by rw [h2]; exact List.replicate_succ'.symm⟩⟩
 · rintro σ' ys H' ⟨_, s, h1, h2⟩
   refine ⟨p, List.replicate (ps.map fun p => V.ref p.1).length true, rfl, SqL.of (by rw [h1, h2, List.map_replicate]), _, rfl, ?_⟩
   rw [show (List.replicate (ps.map fun p => V.ref p.1).length true).all id = true by simp]
   refine iteT ⟨_, rfl, a, ps.map (fun p => (p.1, p.2.1, [eV p.2.2.1, eV p.2.2.2])), rfl, ?_, by rw [List.length_map]; exact ll, ?_, ?_, fun H2 s2 => q H2 (s.trans s2)⟩
   · rw [List.map_map]; exact s _ _ hA
   · intro r hr
     rw [List.mem_map] at hr
     obtain ⟨P1, hm, rfl⟩ := hr
     exact s _ _ (hP P1 hm)
   · intro i r1 r2 h3 h4
     rw [List.getElem?_map] at h3 h4
     cases e1 : ps[i]? with
     | none => rw [e1] at h3; cases h3
     | some P1 =>
      cases e2 : ps[i + 1]? with
      | none => rw [e2] at h4; cases h4
      | some P2 =>
       rw [e1] at h3
       rw [e2] at h4
       obtain rfl := Option.some.inj h3
       obtain rfl := Option.some.inj h4
       have l2 := (List.getElem?_eq_some_iff.mp e2).1
       have := List.pairwise_iff_getElem.mp wok.asc i (i + 1) (by simp; omega) (by simp; omega) (by omega)
       simp only [List.getElem_map] at this
       rw [(List.getElem?_eq_some_iff.mp e1).2, (List.getElem?_eq_some_iff.mp e2).2] at this
       exact this
theorem zei (F : Fun K "are_wishes" "are_wishes" zbg f fd) (G_is_wish : Γ7 P w K mg base) : FnOk P w K mg base CX0 6 f fd ["thing"] (zfm) := by
 refine F.ok zd7 (fun vs H Q E h => ?_) (fun cdv A outer s H vs Q E hr h => ?_)
 · obtain ⟨l, ws, rfl, hw, q⟩ := h
   rfl
 obtain ⟨l, ws, rfl, hw, q⟩ := h
 refine ⟨_, (zah (zap (zcv (zai (zaw (n := "")) rfl B.isinstance_ zal (zaa (pv 0) (zaa (zaL (v := .ty "list") rfl B.list_ zcz rfl) zac))) (zbG (zai (zcN rfl) rfl B.all_ ze6 (zaa (zed (N' := ["wish"]) (js := [none]) rfl (zcL (N := ["thing"]) (outer := zag zbg) (by decide +kernel)) (zbR (pv 0)) (fun _ _ _ _ _ => (zaj (i := 0) (show List.Nodup (["wish"] : List Str) by decide +kernel) rfl (Or.inl rfl))) (fun _ _ _ _ _ => zbt) (fun _ _ _ _ _ => (zau G_is_wish (hr.mono (by decide)) rfl (zaa (pv 0) zac)))) zac)))))), ?_⟩
 have hA := hw.at'
 refine ⟨_, rfl, _, "list", "list", true, rfl, .lst hA, rfl, _, rfl, iteT ?_⟩
 refine ⟨_, rfl, l, rfl, ⟨_, SqL.of hA⟩, fun p hp => ?_⟩
 refine zeo (xs := ws.map fun x => V.ref x.1) (fun i σ' ys H' => (∃ v, σ' = [v]) ∧ Same H H' ∧ H' p = some (.lst ys) ∧ ys = List.replicate i (V.bl true)) ⟨⟨none, rfl⟩, zaf hp _, zad, rfl⟩ ?_ ?_ ?_
 · rintro i σ' ys H' hi ⟨_, s, h1, h2⟩
   refine ⟨s.seq (SqL.of hA), h1, ?_⟩
   rw [h2, List.length_replicate]
   rw [List.length_map] at hi
   have := hw.len
   exact zav (by omega)
 · rintro i x σ' ys H' N hx ⟨⟨v, rfl⟩, s, h1, h2⟩ hN
   rw [List.getElem?_map] at hx
   cases e1 : ws[i]? with
   | none => rw [e1] at hx; cases hx
   | some P1 =>
    rw [e1] at hx
    obtain rfl : V.ref P1.1 = x := Option.some.inj hx
    obtain ⟨o1, o2⟩ := hw.ok P1 (List.mem_of_getElem? e1)
    refine ⟨_, rfl, P1.1, P1.2, rfl, o1.same s, o2, fun H2 s2 => ?_⟩
    refine ⟨s2 _ _ h1, hN _ _ _ ⟨⟨_, rfl⟩, za5 (s.trans s2) hp, zad, by rw [h2]; exact List.replicate_succ'.symm⟩⟩
 · rintro σ' ys H' ⟨_, s, h1, h2⟩
   refine ⟨p, List.replicate (ws.map fun x => V.ref x.1).length true, rfl, SqL.of (by rw [h1, h2, List.map_replicate]), ?_⟩
   rw [show (List.replicate (ws.map fun x => V.ref x.1).length true).all id = true by simp]
   exact q _ s
theorem zdD (F : Fun K "check_wishes" "check_wishes" zbf f fd) (G_are_wishes : Γ8 P w K mg base) : FnOk P w K mg base CX0 7 f fd ["thing"] (zd3) := by
 refine F.ok zds (fun vs H Q E h => ?_) (fun cdv A outer s H vs Q E hr h => ?_)
 · obtain ⟨l, ws, rfl, hw, q⟩ := h
   rfl
 obtain ⟨l, ws, rfl, hw, q⟩ := h
 refine ⟨_, (zah (zaW (zby (zba (zau G_are_wishes (hr.mono (by decide)) rfl (zaa (pv 0) zac)))) (zah ziC) zas)), ?_⟩
 exact ⟨_, rfl, l, ws, rfl, hw, fun H' s => ⟨_, rfl, iteF (q H' s)⟩⟩
theorem zcV (F : Fun K "spans_by_field" "spans_by_field" zaO f fd)  : FnOk P w K mg base CX0 1 f fd ["wish"] (zdo) := by
 refine F.ok zcR (fun vs H Q E h => ?_) (fun cdv A outer s H vs Q E hr h => ?_)
 · obtain ⟨a, w', rfl, hw, wok, q⟩ := h
   rfl
 obtain ⟨a, w', rfl, hw, wok, q⟩ := h
 refine ⟨_, (zah (zap (zlb (N' := ["field", "low", "high"]) (js := [none, none, none]) rfl (zcL (N := ["wish"]) (outer := zag zaO) (by decide +kernel)) (zdw (pv 0)) (fun _ _ _ _ _ => (zfu K rfl (n := 3) rfl (zaq (zaj (i := 0) (show List.Nodup (["field", "low", "high"] : List Str) by decide +kernel) rfl (Or.inl rfl)) (zaq (zaj (i := 1) (show List.Nodup (["field", "low", "high"] : List Str) by decide +kernel) rfl (Or.inl rfl)) (zaq (zaj (i := 2) (show List.Nodup (["field", "low", "high"] : List Str) by decide +kernel) rfl (Or.inl rfl)) zbm))))) (fun _ _ _ _ _ => zbt) (fun _ _ _ _ _ => (pv 0)) (fun _ _ _ _ _ => (za9 (zaa (pv 1) (zaa (pv 2) zac))))))), ?_⟩
 obtain ⟨ps, rfl, hA, hP⟩ := hw
 have ll : ps.length ≤ 100 := by have := wok.len; rw [List.length_map] at this; exact this
 refine ⟨_, rfl, a, rfl, ⟨_, SqT.of hA⟩, fun d hd => ?_⟩
 refine zkS (xs := ps.map fun p => V.ref p.1) (fun i σ' kvs H' => (∃ v1 v2 v3, σ' = [v1, v2, v3]) ∧ Same H H' ∧ H' d = some (.dK kvs) ∧ kvs.length ≤ i ∧ ∀ f : Str, match za6 ((ps.map (·.2)).take i) f with
  | none => valV kvs (.inr f) = none
  | some s => ∃ t, valV kvs (.inr f) = some (.ref t) ∧ H' t = some (.tup [eV s.1, eV s.2])) ⟨⟨none, none, none, rfl⟩, zaf hd _, zad, Nat.zero_le _, fun f => rfl⟩ ?_ ?_ ?_
 · rintro i σ' kvs H' hi ⟨_, s, h1, h2, _⟩
   rw [List.length_map] at hi
   exact ⟨s.seqT (SqT.of hA), h1, zav (by omega)⟩
 · rintro i x σ' kvs H' N hx ⟨⟨v1, v2, v3, rfl⟩, s, h1, h2, h3⟩ hN
   rw [List.getElem?_map] at hx
   cases e1 : ps[i]? with
   | none => rw [e1] at hx; cases hx
   | some P1 =>
    rw [e1] at hx
    obtain rfl : V.ref P1.1 = x := Option.some.inj hx
    have hm := List.mem_of_getElem? e1
    refine ⟨P1.1, _, rfl, SqT.of (s _ _ (hP P1 hm)), rfl, _, _, rfl, _, _, rfl, _, _, rfl, rfl, ?_⟩
    refine ⟨_, rfl, _, rfl, _, rfl, zq2, fun u hu => ?_⟩
    have su := zaf hu (.tup [eV P1.2.2.1, eV P1.2.2.2])
    have eu : (upd H' u (.tup [eV P1.2.2.1, eV P1.2.2.2])) u = some (.tup [eV P1.2.2.1, eV P1.2.2.2]) := zad
    have h1' := su _ _ h1
    generalize upd H' u (.tup [eV P1.2.2.1, eV P1.2.2.2]) = H2 at *
    have du : u ≠ d := zhA eu h1' (by intro z; cases z)
    refine ⟨Sum.inr P1.2.1, rfl, h1', hN _ _ _ ⟨⟨_, _, _, rfl⟩, za5 (s.trans su) hd, zad, ?_, fun f => ?_⟩⟩
    · have := zdF kvs (Sum.inr P1.2.1 : Key) (V.ref u)
      omega
    · have ew : (ps.map (·.2))[i]? = some P1.2 := by rw [List.getElem?_map, e1]; rfl
      have fr := wok.fresh ew
      rw [zar ew, zfc _ _ _ fr, zik]
      by_cases hf : f = P1.2.1
      · subst hf
        rw [if_pos rfl, if_pos rfl]
        exact ⟨u, rfl, by rw [zak du]; exact eu⟩
      · rw [if_neg hf, if_neg (fun z => hf (by injection z))]
        have := h3 f
        cases hs : za6 ((ps.map (·.2)).take i) f with
        | none => rw [hs] at this; exact this
        | some sp =>
         rw [hs] at this
         obtain ⟨t, t1, t2⟩ := this
         exact ⟨t, t1, by rw [zak (zhA (su _ _ t2) h1' (by intro z; cases z))]; exact su _ _ t2⟩
 · rintro σ' kvs H' ⟨_, s, h1, h2, h3⟩
   have et : (ps.map (·.2)).take (ps.map fun p => V.ref p.1).length = ps.map (·.2) := List.take_of_length_le (by simp)
   refine q d H' s hd ⟨kvs, h1, by simpa using h2, fun f => ?_⟩
   have := h3 f
   rw [et] at this
   exact this
theorem zdg (F : Fun K "reaches_spans" "reaches_spans" za7 f fd) (G_span_reaches : Γ3 P w K mg base) : FnOk P w K mg base CX0 2 f fd ["one", "other_spans"] (zdp) := by
 refine F.ok sc_reaches_spans (fun vs H Q E h => ?_) (fun cdv A outer s H vs Q E hr h => ?_)
 · obtain ⟨a, d, w', w2, rfl, hw, hd, q⟩ := h
   rfl
 obtain ⟨a, d, w', w2, rfl, hw, hd, q⟩ := h
 refine ⟨_, (zab (zct PassesOwn.never rfl (zdw (pv 0)) (zcu rfl (zaq (zaj (i := 2) sc_reaches_spans.nd rfl (Or.inl rfl)) (zaq (zaj (i := 3) sc_reaches_spans.nd rfl (Or.inl rfl)) (zaq (zaj (i := 4) sc_reaches_spans.nd rfl (Or.inl rfl)) zbm)))) (zah (zaW (PW.pt (zdf (zbZ (zhs (zkP hr) (pv 2) (pv 1)) (by with_unfolding_all rfl)) (zbY (zby (zba (zau G_span_reaches (hr.mono (by decide)) rfl (zaa (za9 (zaa (pv 3) (zaa (pv 4) zac))) (zaa (zjH (zkP hr) (pv 1) (pv 2) (fun _ _ => rfl)) zac)))))))) (zah (zap zb3)) zas)))
  (zah (zap zb3))), ?_⟩
 obtain ⟨ps, rfl, hA, hP⟩ := hw
 refine ⟨_, rfl, a, rfl, ⟨_, SqT.of hA⟩, zep (K := K) (a := a) (xs := ps.map fun p => V.ref p.1) (fun i σ H' => (∃ y2 y3 y4, σ = [some (.ref a), some (.ref d), y2, y3, y4]) ∧ Same H H' ∧ zaG ((ps.map (·.2)).take i) w2 = true) ⟨⟨none, none, none, rfl⟩, Same.refl _, rfl⟩ (fun i σ H' _ ⟨_, s, _⟩ => s.seqT (SqT.of hA)) ?_ ?_⟩
 · rintro i x σ H' hx ⟨⟨y2, y3, y4, rfl⟩, s, hr'⟩
   rw [List.getElem?_map] at hx
   cases e1 : ps[i]? with
   | none => rw [e1] at hx; cases hx
   | some P1 =>
    rw [e1] at hx
    obtain rfl : V.ref P1.1 = x := Option.some.inj hx
    have hm := List.mem_of_getElem? e1
    have ew : (ps.map (·.2))[i]? = some P1.2 := by rw [List.getElem?_map, e1]; rfl
    obtain ⟨kvs, k1, k2, k3⟩ := hd.same s
    have kf := k3 P1.2.1
    refine ⟨P1.1, _, rfl, SqT.of (s _ _ (hP P1 hm)), rfl, _, _, rfl, _, _, rfl, _, _, rfl, rfl, ?_⟩
    have out : zc5 w2 P1.2 = false → zaG (ps.map (·.2)) w2 = false := fun h => by
     unfold zaG
     rw [List.all_eq_false]
     exact ⟨P1.2, List.mem_map_of_mem hm, by rw [h]; exact Bool.false_ne_true⟩
    refine ⟨_, rfl, _, rfl, d, _, rfl, DGet.k (k := Sum.inr P1.2.1) k1, _, rfl, ?_⟩
    cases hs : za6 w2 P1.2.1 with
    | none =>
     rw [hs] at kf
     rw [kf]
     refine iteT ?_
     have o1 := out (zdt hs)
     rw [o1] at q
     exact q _ s
    | some sp =>
     rw [hs] at kf
     obtain ⟨t, t1, t2⟩ := kf
     rw [t1]
     refine iteF ⟨_, rfl, _, rfl, zq2, fun u hu => ?_⟩
     have su := zaf hu (.tup [eV P1.2.2.1, eV P1.2.2.2])
     have gd : DGet (upd H' u (.tup [eV P1.2.2.1, eV P1.2.2.2])) d (.str P1.2.1) (some (.ref t)) := by
      have := DGet.k (k := Sum.inr P1.2.1) (su _ _ k1)
      rw [t1] at this
      exact this
     refine ⟨_, rfl, _, rfl, d, _, rfl, gd, .ref u, .ref t, P1.2.2.1, P1.2.2.2, sp.1, sp.2, rfl, ⟨u, rfl, zad⟩, ⟨t, rfl, su _ _ t2⟩, _, rfl, ?_⟩
     cases hb : zb5 P1.2.2.1 P1.2.2.2 sp.1 sp.2 with
     | false =>
      refine iteT ?_
      have o1 := out ((zcy hs).trans hb)
      rw [o1] at q
      exact q _ (s.trans su)
     | true =>
      refine iteF ⟨⟨_, _, _, rfl⟩, s.trans su, ?_⟩
      rw [zar ew]
      unfold zaG at *
      rw [List.all_append, hr', Bool.true_and, List.all_cons, List.all_nil, zcy hs, hb]
      rfl
 · rintro σ H' ⟨_, s, hr'⟩
   rw [show (ps.map (·.2)).take (ps.map fun p => V.ref p.1).length = ps.map (·.2) from List.take_of_length_le (by simp)] at hr'
   rw [hr'] at q
   exact q _ s
theorem zdM (F : Fun K "rank_of_low" "rank_of_low" zbr f fd)  : FnOk P w K mg base CX0 1 f fd ["low"] (zg1) := by
 refine F.ok zdL (fun vs H Q E h => ?_) (fun cdv A outer s H vs Q E hr h => ?_)
 · obtain ⟨o, rfl, q⟩ := h
   rfl
 obtain ⟨o, rfl, q⟩ := h
 refine ⟨_, (zah (zap (zcq (zbZ (zbi (pv 0))) (za9 (zaa zae (zaa zae zac))) (za9 (zaa zae (zaa (pv 0) zac)))))), ?_⟩
 cases o with
 | none => exact ⟨_, rfl, _, rfl, iteT ⟨zq2, fun t ht => q t _ (zaf ht _) zad⟩⟩
 | some l => exact ⟨_, rfl, _, rfl, iteF ⟨_, rfl, zq2, fun t ht => q t _ (zaf ht _) zad⟩⟩
theorem zdA (F : Fun K "rank_of_high" "rank_of_high" zbd f fd)  : FnOk P w K mg base CX0 1 f fd ["high"] (zfj) := by
 refine F.ok zdr (fun vs H Q E h => ?_) (fun cdv A outer s H vs Q E hr h => ?_)
 · obtain ⟨o, rfl, q⟩ := h
   rfl
 obtain ⟨o, rfl, q⟩ := h
 refine ⟨_, (zah (zap (zcq (zbZ (zbi (pv 0))) (za9 (zaa zae (zaa zae zac))) (za9 (zaa zae (zaa (pv 0) zac)))))), ?_⟩
 cases o with
 | none => exact ⟨_, rfl, _, rfl, iteT ⟨zq2, fun t ht => q t _ (zaf ht _) zad⟩⟩
 | some l => exact ⟨_, rfl, _, rfl, iteF ⟨_, rfl, zq2, fun t ht => q t _ (zaf ht _) zad⟩⟩
theorem zjM (F : Fun K "rank" "rank" zeH f fd) (G_rank_of_low : Γ12 P w K mg base) (G_rank_of_high : Γ13 P w K mg base) : FnOk P w K mg base CX0 2 f fd ["wish"] (zg0 K) := by
 refine F.ok zjy (fun vs H Q E h => ?_) (fun cdv A outer s H vs Q E hr h => ?_)
 · obtain ⟨a, w', rfl, hw, wok, q⟩ := h
   rfl
 obtain ⟨a, w', rfl, hw, wok, q⟩ := h
 refine ⟨_, (zah (zap (zed (N' := ["field", "low", "high"]) (js := [none, none, none]) rfl (zcL (N := ["wish"]) (outer := zag zeH) (by decide +kernel)) (zdw (pv 0)) (fun _ _ _ _ _ => (zfu K rfl (n := 3) rfl (zaq (zaj (i := 0) (show List.Nodup (["field", "low", "high"] : List Str) by decide +kernel) rfl (Or.inl rfl)) (zaq (zaj (i := 1) (show List.Nodup (["field", "low", "high"] : List Str) by decide +kernel) rfl (Or.inl rfl)) (zaq (zaj (i := 2) (show List.Nodup (["field", "low", "high"] : List Str) by decide +kernel) rfl (Or.inl rfl)) zbm))))) (fun _ _ _ _ _ => zbt) (fun _ _ _ _ _ => (za9 (zaa (pv 0) (zaa (zau G_rank_of_low (hr.mono (by decide)) rfl (zaa (pv 1) zac)) (zaa (zau G_rank_of_high (hr.mono (by decide)) rfl (zaa (pv 2) zac)) zac)))))))), ?_⟩
 obtain ⟨ps, rfl, hA, hP⟩ := hw
 have ll : ps.length ≤ 100 := by have := wok.len; rw [List.length_map] at this; exact this
 refine ⟨_, rfl, a, rfl, ⟨_, SqT.of hA⟩, fun p hp => ?_⟩
 refine zjd (xs := ps.map fun p => V.ref p.1) (fun j σ' ys H2 => (∃ v1 v2 v3, σ' = [v1, v2, v3]) ∧ Same H H2 ∧ H2 p = some (.lst ys) ∧ ∃ qs : List (Addr × Addr × Addr × WP), ys = qs.map (fun q => V.ref q.1) ∧ qs.map (·.2.2.2) = (ps.map (·.2)).take j ∧ ∀ q ∈ qs, RkAt H2 q) ⟨⟨none, none, none, rfl⟩, zaf hp _, zad, [], rfl, rfl, fun q hq => by simp at hq⟩ ?_ ?_ ?_
 · rintro j σ' ys H2 hj ⟨_, s2, h1, qs, rfl, h3, _⟩
   refine ⟨s2.seqT (SqT.of hA), h1, ?_⟩
   have := congrArg List.length h3
   rw [List.length_map, List.length_take, List.length_map] at this
   rw [List.length_map]
   exact zav (by omega)
 · rintro j y σ' ys H2 N hy ⟨⟨v1, v2, v3, rfl⟩, s2, h1, qs, rfl, h3, h4⟩ hN
   rw [List.getElem?_map] at hy
   cases e2 : ps[j]? with
   | none => rw [e2] at hy; cases hy
   | some P2 =>
    rw [e2] at hy
    obtain rfl : V.ref P2.1 = y := Option.some.inj hy
    have hm2 := List.mem_of_getElem? e2
    have ep : (ps.map (·.2))[j]? = some P2.2 := by rw [List.getElem?_map, e2]; rfl
    refine ⟨P2.1, _, rfl, SqT.of (s2 _ _ (hP P2 hm2)), rfl, _, _, rfl, _, _, rfl, _, _, rfl, rfl, ?_⟩
    refine ⟨_, rfl, _, rfl, P2.2.2.1, rfl, fun t1 H3 s3 e3 => ?_⟩
    refine ⟨_, rfl, P2.2.2.2, rfl, fun t2 H4 s4 e4 => ?_⟩
    refine ⟨zq3, fun t ht => ?_⟩
    have st := zaf ht (.tup [V.str P2.2.1, .ref t1, .ref t2])
    have s5 := (s3.trans s4).trans st
    have h5 := s5 _ _ h1
    have tl := zcB (o := .lst (qs.map (fun q => V.ref q.1) ++ [V.ref t])) h5
    refine ⟨h5, hN _ _ _ ⟨⟨_, _, _, rfl⟩, za5 (s2.trans s5) hp, zad, qs ++ [(t, t1, t2, P2.2)], ?_, ?_, ?_⟩⟩
    · rw [List.map_append]; rfl
    · rw [List.map_append, h3, zar ep]; rfl
    · intro q hq
      rcases List.mem_append.mp hq with z | z
      · exact (h4 q z).keep (s5.tups.trans tl)
      · rw [List.mem_singleton.mp z]
        exact ⟨tl _ _ zad, tl _ _ (st _ _ (s4 _ _ e3)), tl _ _ (st _ _ e4)⟩
 · rintro σ' ys H2 ⟨_, s2, h1, qs, rfl, h3, h4⟩
   have et : (ps.map (·.2)).take (ps.map fun p => V.ref p.1).length = ps.map (·.2) := List.take_of_length_le (by simp)
   rw [et] at h3
   have := zkk (K := K) h1 h4
   rw [h3] at this
   exact q _ _ s2 this
theorem zfF (F : Fun K "is_under" "is_under" zcm f fd) (G_spans_by_field : Γ10 P w K mg base) (G_reaches_spans : Γ11 P w K mg base) : FnOk P w K mg base CX0 3 f fd ["wish", "others"] (zff) := by
 refine F.ok sc_is_under (fun vs H Q E h => ?_) (fun cdv A outer s H vs Q E hr h => ?_)
 · obtain ⟨a, d, w', ks, rfl, hw, wok, hd, kok, q⟩ := h
   rfl
 obtain ⟨a, d, w', ks, rfl, hw, wok, hd, kok, q⟩ := h
 refine ⟨_, (zab (zao (i := 2) sc_is_under.nd rfl (Or.inl rfl) (zau G_spans_by_field (hr.mono (by decide)) rfl (zaa (pv 0) zac)))
  (zab (zct PassesOwn.never rfl (zjb (pv 1)) (zaj (i := 3) sc_is_under.nd rfl (Or.inl rfl)) (zah (zaW (PW.pt (zeK (zba (zau G_reaches_spans (hr.mono (by decide)) rfl (zaa (pv 3) (zaa (pv 2) zac)))) (zdu (zax (zgg (zbs hr)) (pv 3) (pv 0) (zaA _))))) (zah (zap zb3)) zas)))
  (zah (zap zb3)))), ?_⟩
 refine ⟨_, rfl, a, w', rfl, hw, wok, fun sd H1 s1 hsd D1 => ?_⟩
 obtain ⟨⟨ep, ed⟩, hk⟩ := hd
 refine ⟨_, rfl, d, _, ep, rfl, s1 _ _ ed, zjU (fun i σ H' => (∃ y, σ = [some (.ref a), some (.ref d), some (.ref sd), y]) ∧ Same H1 H' ∧ ((ks.take i).any fun k => zaG k.2 w' && !decide (k.2 = w')) = false) ⟨⟨none, rfl⟩, Same.refl _, rfl⟩ (fun i σ H' _ ⟨_, s, _⟩ => s _ _ (s1 _ _ ed)) ?_ ?_⟩
 · rintro i x σ H' hx ⟨⟨y, rfl⟩, s, hr'⟩
   rw [List.getElem?_map] at hx
   cases e1 : ks[i]? with
   | none => rw [e1] at hx; cases hx
   | some K1 =>
    rw [e1] at hx
    obtain rfl : K1.1 = x := Option.some.inj hx
    have hm := List.mem_of_getElem? e1
    have w1 := (hk K1 hm).same (s1.trans s)
    have step : (zaG K1.2 w' && !decide (K1.2 = w')) = false → ((ks.take (i + 1)).any fun k => zaG k.2 w' && !decide (k.2 = w')) = false := fun h => by
     rw [zar e1, List.any_append, hr', Bool.false_or, List.any_cons, List.any_nil, h]
     rfl
    refine ⟨_, rfl, _, rfl, K1.1, sd, K1.2, w', rfl, w1, D1.same s, fun H2 s2 => ⟨_, rfl, ?_⟩⟩
    cases rc : zaG K1.2 w' with
    | false =>
     refine iteF ⟨⟨_, rfl⟩, s.trans s2, step ?_⟩
     rw [rc]
     rfl
    | true =>
     refine iteT ⟨_, rfl, _, rfl, dW K1.2, dW w', zgx (w1.same s2), zgx (hw.same (s1.trans (s.trans s2))), Nat.lt_of_le_of_lt (zfY _) (by decide), ?_⟩
     rw [zhm]
     by_cases e : K1.2 = w'
     · rw [decide_eq_true e]
       refine ⟨_, rfl, iteF ⟨⟨_, rfl⟩, s.trans s2, step ?_⟩⟩
       rw [rc, decide_eq_true e]
       rfl
     · rw [decide_eq_false e]
       refine ⟨_, rfl, iteT ?_⟩
       have : (ks.any fun k => zaG k.2 w' && !decide (k.2 = w')) = true := List.any_eq_true.mpr ⟨K1, hm, by rw [rc, decide_eq_false e]; rfl⟩
       rw [this] at q
       exact q _ (s1.trans (s.trans s2))
 · rintro σ H' ⟨_, s, hr'⟩
   rw [List.length_map, List.take_length] at hr'
   rw [hr'] at q
   exact q _ (s1.trans s)
theorem zdN (F : Fun K "greatest_of" "greatest_of" zaU f fd) (G_is_under : Γ15 P w K mg base) : FnOk P w K mg base CX0 4 f fd ["wishes"] (zfg) := by
 refine F.ok sc_greatest_of (fun vs H Q E h => ?_) (fun cdv A outer s H vs Q E hr h => ?_)
 · obtain ⟨l, ws, rfl, hw, q⟩ := h
   rfl
 obtain ⟨l, ws, rfl, hw, q⟩ := h
 refine ⟨_, (zab (zao (i := 1) sc_greatest_of.nd rfl (Or.inr rfl) (zkt (zbs hr) (N' := ["wish"]) (js := [none]) rfl (zcL (N := ["wishes", "unlike"]) (outer := zag zaU) (by decide +kernel)) (zbR (pv 0)) (fun _ _ _ _ _ => (zaj (i := 0) (show List.Nodup (["wish"] : List Str) by decide +kernel) rfl (Or.inl rfl))) (fun _ _ _ _ _ => zbt) (fun _ _ _ _ _ => (pv 0)) (fun _ _ _ _ _ => zb3)))
  (zah (zap (zed (N' := ["wish", "unlike"]) (js := [none, some 1]) rfl (zcL (N := ["wishes", "unlike"]) (outer := zag zaU) (by decide +kernel)) (zjb (pv 1)) (fun _ _ _ _ _ => (zaj (i := 0) (show List.Nodup (["wish", "unlike"] : List Str) by decide +kernel) rfl (Or.inl rfl))) (fun _ _ _ _ _ => zcE (zby (zba (zau G_is_under (hr.mono (by decide)) rfl (zaa (pv 0) (zaa (pv 1) zac)))))) (fun _ _ _ _ _ => (pv 0)))))), ?_⟩
 have hA := hw.at'
 refine ⟨_, rfl, l, rfl, ⟨_, SqL.of hA⟩, fun p hp => ⟨fun i m σ' ks H' => m = ws.length - i ∧ i ≤ ws.length ∧ (∃ v, σ' = [v]) ∧ Dd (ws.take i) ks ∧ Same H H', ⟨ws.length, fun φ => ⟨by simp, Nat.zero_le _, ⟨none, rfl⟩, Dd.nil, zaf hp _⟩⟩, ?_⟩⟩
 rintro i m σ' ks H1 ⟨rfl, hi, ⟨v, rfl⟩, dd, s1⟩
 have wk : ∀ k ∈ ks, WishAt H1 k.1 k.2 := fun k hk => ((hw.ok k (List.mem_of_mem_take (dd.sub k hk))).1).same s1
 have lk : ks.length ≤ 800 := by have h1 := dd.len; have h2 := hw.len; rw [List.length_take] at h1; omega
 refine ⟨wk, by omega, ?_⟩
 by_cases hlt : i < ws.length
 · refine .inr ⟨⟨_, _, SqL.of (s1 _ _ hA), by rw [List.getElem?_map, List.getElem?_eq_getElem hlt]; rfl⟩, fun x H2 y => ?_⟩
   obtain ⟨rfl, y⟩ := y
   have y := y _ (SqL.of (s1 _ _ hA))
   rw [List.getElem?_map, List.getElem?_eq_getElem hlt] at y
   obtain rfl : V.ref ws[i].1 = x := Option.some.inj y
   simp only [tYes, if_true]
   refine ⟨_, rfl, ws[i].1, ws[i].2, rfl, rfl, ((hw.ok _ (List.getElem_mem hlt)).1).same s1, wk, rfl, fun φ => ⟨ws.length - (i + 1), by omega, rfl, hlt, ⟨_, rfl⟩, ?_, za5 s1 hp⟩⟩
   rw [zar (List.getElem?_eq_getElem hlt)]
   exact dd.put _
 · obtain rfl : i = ws.length := by omega
   rw [List.take_length] at dd
   refine .inl ⟨⟨_, SqL.of (s1 _ _ hA), by rw [List.length_map]; exact Nat.le_refl _⟩, fun ep => ?_⟩
   have s2 := za5 (o := .ext (za1 p (ks.map (·.1)) ep)) s1 hp
   have e2 : (upd H1 p (.ext (za1 p (ks.map (·.1)) ep))) p = some (.ext (za1 p (ks.map (·.1)) ep)) := zad
   have wk2 : ∀ k ∈ ks, WishAt (upd H1 p (.ext (za1 p (ks.map (·.1)) ep))) k.1 k.2 ∧ WOk k.2 := fun k hk => ⟨((hw.ok k (dd.sub k hk)).1).same s2, (hw.ok k (dd.sub k hk)).2⟩
   generalize upd H1 p (.ext (za1 p (ks.map (·.1)) ep)) = H2 at *
   refine ⟨_, rfl, p, _, ep, rfl, e2, fun r hr' => ?_⟩
   refine zkF (fun i σ' ys H' => (∃ v, σ' = [v, some (.ref p)]) ∧ Same H2 H' ∧ H' r = some (.lst ys) ∧ ys = ((ks.take i).filter fun k => zaT ks k.2).map fun x => V.ref x.1) ⟨⟨none, rfl⟩, zaf hr' _, zad, rfl⟩ ?_ ?_ ?_
   · rintro i σ' ys H' hi ⟨_, s, h1, h2⟩
     refine ⟨s _ _ e2, h1, ?_⟩
     rw [h2, List.length_map]
     have h3 := List.length_filter_le (fun k => zaT ks k.2) (ks.take i)
     rw [List.length_take] at h3
     exact zav (by omega)
   · rintro i x σ' ys H3 N hx ⟨⟨v, rfl⟩, s3, h1, h2⟩ hN
     rw [List.getElem?_map] at hx
     cases ew : ks[i]? with
     | none => rw [ew] at hx; cases hx
     | some X1 =>
      rw [ew] at hx
      obtain rfl : X1.1 = x := Option.some.inj hx
      obtain ⟨x1, x2⟩ := wk2 X1 (List.mem_of_getElem? ew)
      refine ⟨_, rfl, _, rfl, X1.1, p, X1.2, ks, rfl, x1.same s3, x2, ⟨⟨ep, s3 _ _ e2⟩, fun k hk => ((wk2 k hk).1).same s3⟩, fun k hk => (wk2 k hk).2, fun H4 s4 => ⟨_, rfl, ?_⟩⟩
      have st : ((ks.take (i + 1)).filter fun k => zaT ks k.2) = (ks.take i).filter (fun k => zaT ks k.2) ++ (if zaT ks X1.2 then [X1] else []) := by
       rw [zar ew, List.filter_append]
       congr 1
       rw [List.filter_cons]
       rfl
      cases c : ks.any (fun k => zaG k.2 X1.2 && !decide (k.2 = X1.2)) with
      | true =>
       have ct : zaT ks X1.2 = false := by unfold zaT; rw [c]; rfl
       rw [ct] at st
       exact iteF (hN _ _ _ ⟨⟨_, rfl⟩, s3.trans s4, s4 _ _ h1, by rw [h2, st]; simp⟩)
      | false =>
       have ct : zaT ks X1.2 = true := by unfold zaT; rw [c]; rfl
       rw [ct] at st
       exact iteT ⟨_, rfl, s4 _ _ h1, hN _ _ _ ⟨⟨_, rfl⟩, za5 (s3.trans s4) hr', zad, by rw [h2, st]; simp⟩⟩
   · rintro σ' ys H3 ⟨_, s3, h1, rfl⟩
     rw [List.length_map, List.take_length] at h1
     exact q r _ H3 (s2.trans s3) (s2.free hr') ⟨h1, fun x hx => dd.sub x (List.mem_filter.mp hx).1, dd.top, Nat.le_trans (List.length_filter_le _ _) dd.len⟩
theorem zfH (F : Fun K "greatest" "greatest" zcn f fd) (G_check_wishes : Γ9 P w K mg base) (G_greatest_of : Γ16 P w K mg base) (G_rank : Γ14 P w K mg base) : FnOk P w K mg base CX0 8 f fd ["wishes"] (zgv) := by
 refine F.ok zfr (fun vs H Q E h => ?_) (fun cdv A outer s H vs Q E hr h => ?_)
 · obtain ⟨l, ws, rfl, hw, q⟩ := h
   rfl
 obtain ⟨l, ws, rfl, hw, q⟩ := h
 refine ⟨_, (zab (zbQ (zau G_check_wishes (hr.mono (by decide)) rfl (zaa (pv 0) zac)))
  (zah (zap (zeM G_rank (hr.mono (by decide)) rfl B.sorted_ rfl (zaa (zau G_greatest_of (hr.mono (by decide)) rfl (zaa (pv 0) zac)) zac))))), ?_⟩
 refine ⟨_, rfl, l, ws, rfl, hw, fun H1 s1 => ?_⟩
 refine ⟨_, rfl, l, ws, rfl, hw.same s1, fun t qs H2 s2 nt T2 => ?_⟩
 have W2 : WsAt H2 t qs := ⟨T2.1, fun x hx => ⟨((hw.ok x (T2.2.1 x hx)).1).same (s1.trans s2), (hw.ok x (T2.2.1 x hx)).2⟩, Nat.le_trans T2.2.2.2 hw.len⟩
 refine zgd rkD W2 (fun x hx H3 s3 Q1 hQ => ⟨x.1, x.2, rfl, ((W2.ok x hx).1).same s3, (W2.ok x hx).2, hQ⟩) (.inr (.inl fun i => ⟨_, rfl⟩)) (fun w => Nat.le_trans (ziX w) (by decide)) zjP zjD fun r rs H3 s3 nr pm sr e3 => ?_
 exact q r rs H3 (s1.trans (s2.trans s3)) (s1.free (s2.free nr)) ⟨e3, fun x hx => T2.2.1 x (pm.mem_iff.mp hx), T2.2.2.1.perm (pm.map _), by rw [pm.length_eq]; exact T2.2.2.2⟩ sr
theorem zfw (F : Fun K "_law_well" "_law_well" zbw f fd)  : FnOk P w K mg base CX0 1 f fd ["script"] (zgY K) := by
 refine F.ok sc_law_well (fun vs H Q E h => ?_) (fun cdv A outer s H vs Q E hr h => ?_)
 · obtain ⟨a, ns, rfl, hS, h63, q⟩ := h
   rfl
 obtain ⟨a, ns, rfl, hS, h63, q⟩ := h
 refine ⟨_, (zab (zec (N' := ["cell"]) (js := [none]) (i := 1) sc_law_well.nd rfl (Or.inl rfl) rfl (zcL (N := ["script", "great", "small", "seed", "number"]) (outer := zag zbw) (by decide +kernel)) (zbR (zbF zha (pv 0) zb7 (zb6 zae))) (fun _ _ _ _ _ => (zaj (i := 0) (show List.Nodup (["cell"] : List Str) by decide +kernel) rfl (Or.inl rfl))) (fun _ _ _ _ _ => zcE (zax zlc (zai zey rfl B.abs_ zid (zaa (pv 0) zac)) (zat zbI zae zae) (zaA _))) (fun _ _ _ _ _ => (zat zcH (zai zey rfl B.abs_ zid (zaa (pv 0) zac)) (zat zcT (zat zbI zae zae) (zat zbI zae zae)))))
  (zab (zec (N' := ["cell"]) (js := [none]) (i := 2) sc_law_well.nd rfl (Or.inl rfl) rfl (zcL (N := ["script", "great", "small", "seed", "number"]) (outer := zag zbw) (by decide +kernel)) (zbR (zbF zha (pv 0) zb7 (zb6 zae))) (fun _ _ _ _ _ => (zaj (i := 0) (show List.Nodup (["cell"] : List Str) by decide +kernel) rfl (Or.inl rfl))) (fun _ _ _ _ _ => zcE (zax ziI (zai zey rfl B.abs_ zid (zaa (pv 0) zac)) (zat zbI zae zae) (zaA _))) (fun _ _ _ _ _ => (zat zcH (pv 0) zae)))
  (zab (zao (i := 3) sc_law_well.nd rfl (Or.inl rfl) (zat zaS zae (zai zaC rfl B.len_ zbN (zaa (pv 2) zac))))
  (zab (zct PassesOwn.never rfl (zbR (pv 2)) (zaj (i := 4) sc_law_well.nd rfl (Or.inl rfl)) (zah (zao (i := 3) sc_law_well.nd rfl (Or.inl rfl) (zat zcH (zat zaS (zat zaS (zat zcT (pv 3) zae) (zat zcT (pv 4) zae)) zae) zae))))
  (zah (zap (zb0 (zaa (pv 1) (zaa (pv 2) (zaa (pv 3) (zaa zae zac))))))))))), ?_⟩
 have cut : cutV (ns.map V.int) none (some 63) = ns.map V.int := by
  unfold cutV
  rw [show HT.sIx (ns.map V.int).length 0 none = 0 from rfl, show HT.sIx (ns.map V.int).length (ns.map V.int).length (some 63) = min 63 (ns.map V.int).length from HT.sIx_nat _ _ 63]
  rw [List.drop_zero]
  exact List.take_of_length_le (by rw [List.length_map]; omega)
 have m60 : zk0 (10 ^ (60 : Int).toNat) (10 ^ (60 : Int).toNat) := ⟨by decide, by decide⟩
 refine ⟨_, rfl, _, rfl, a, _, rfl, hS, fun p1 hp1 => ⟨p1, rfl, ⟨_, SqL.of zad⟩, fun p hp => ?_⟩⟩
 refine zhI (cap := []) ns (fun n => (if n < 0 then -n else n) % (10 ^ (60 : Int).toNat * 10 ^ (60 : Int).toNat)) (fun n => decide ((10 : Int) ^ (18 : Int).toNat ≤ (if n < 0 then -n else n))) (by omega) (SqL.of (by rw [zad, cut])) hp ?_ ?_ ?_ ?_
 · rfl
 · exact fun n H' R s r => ⟨_, rfl, _, rfl, _, _, rfl, rfl, pw10 (by decide) (by decide), _, _, rfl, rfl, _, rfl, r⟩
 · exact fun n H' R s r => ⟨_, rfl, _, rfl, _, _, rfl, rfl, pw10 (by decide) (by decide), _, _, rfl, rfl, pw10 (by decide) (by decide), _, _, rfl, rfl, m60, _, _, rfl, rfl, (by show (0 : Int) < 10 ^ (60 : Int).toNat * 10 ^ (60 : Int).toNat; decide), r⟩
 intro H1 s1 h1
 have t1 : Same H H1 := (zaf hp1 _).trans s1
 have pn1 : H p = none := (zaf hp1 _).free hp
 refine ⟨_, rfl, _, rfl, a, _, rfl, t1.seq hS, fun p2 hp2 => ⟨p2, rfl, ⟨_, SqL.of zad⟩, fun p' hp' => ?_⟩⟩
 refine zhI (cap := []) ns (fun n => n % 2147483563) (fun n => decide ((if n < 0 then -n else n) < (10 : Int) ^ (18 : Int).toNat)) (by omega) (SqL.of (by rw [zad, cut])) hp' ?_ ?_ ?_ ?_
 · rfl
 · exact fun n H' R s r => ⟨_, rfl, _, rfl, _, _, rfl, rfl, pw10 (by decide) (by decide), _, _, rfl, rfl, _, rfl, r⟩
 · exact fun n H' R s r => ⟨_, rfl, _, _, rfl, rfl, (by show (0 : Int) < 2147483563; decide), r⟩
 intro H2 s2 h2
 have t12 : Same H1 H2 := (zaf hp2 _).trans s2
 have t2 : Same H H2 := t1.trans t12
 have g2 := t12 _ _ h1
 have n2 : H1 p' = none := (zaf hp2 _).free hp'
 have lb : ∀ x ∈ (ns.filter fun n => decide ((if n < 0 then -n else n) < (10 : Int) ^ (18 : Int).toNat)).map (fun n => n % 2147483563), 0 ≤ x ∧ x < wM := fun x hx => by
  obtain ⟨y, _, rfl⟩ := List.mem_map.mp hx
  exact ⟨Int.emod_nonneg _ (by decide), Int.emod_lt_of_pos _ (by decide)⟩
 have ll := List.length_filter_le (fun n => decide ((if n < 0 then -n else n) < (10 : Int) ^ (18 : Int).toNat)) ns
 have gg := List.length_filter_le (fun n => decide ((10 : Int) ^ (18 : Int).toNat ≤ (if n < 0 then -n else n))) ns
 generalize hls : (ns.filter fun n => decide ((if n < 0 then -n else n) < (10 : Int) ^ (18 : Int).toNat)).map (fun n => n % 2147483563) = ls at *
 have lz : ls.length ≤ 63 := by rw [← hls, List.length_map]; omega
 generalize hgs : (ns.filter fun n => decide ((10 : Int) ^ (18 : Int).toNat ≤ (if n < 0 then -n else n))).map (fun n => (if n < 0 then -n else n) % (10 ^ (60 : Int).toNat * 10 ^ (60 : Int).toNat)) = gs at *
 have gz : gs.length ≤ 63 := by rw [← hgs, List.length_map]; omega
 refine ⟨_, rfl, p', _, rfl, .inl (SqL.of h2), _, _, rfl, rfl, ?_⟩
 refine ⟨_, rfl, p', rfl, ⟨_, SqL.of h2⟩, zeq (K := K) (a := p') (xs := ls.map V.int) (fun i σ H' => ∃ (st : Int) (x4 : Option V), σ = [some (.ref a), some (.ref p), some (.ref p'), some (.int st), x4] ∧ H' = H2 ∧ 0 ≤ st ∧ st < wM) ⟨_, none, rfl, rfl, by omega, by rw [List.length_map]; unfold wM; omega⟩ (fun i σ H' _ ⟨_, _, _, e, _⟩ => by rw [e]; exact SqL.of h2) ?_ ?_⟩
 · rintro i x σ H' hx ⟨st, x4, rfl, rfl, z0, z1⟩
   rw [List.getElem?_map] at hx
   cases hn : ls[i]? with
   | none => rw [hn] at hx; cases hx
   | some y =>
    rw [hn] at hx
    obtain rfl : V.int y = x := Option.some.inj hx
    obtain ⟨y0, y1⟩ := lb y (List.mem_of_getElem? hn)
    have sm : ∀ z : Int, z.natAbs < 2 ^ 100 → z.natAbs < 2 ^ 1000 := fun z h => Nat.lt_of_lt_of_le h (by decide)
    refine ⟨_, rfl, _, _, rfl, rfl, ⟨sm _ (by unfold wM at z1; omega), by decide⟩, _, rfl, _, _, rfl, rfl, ⟨sm _ (by unfold wM at y1; omega), by decide⟩, _, _, rfl, rfl, _, _, rfl, rfl, _, _, rfl, rfl, (by show (0 : Int) < 2147483563; decide), _, _, rfl, rfl, Int.emod_nonneg _ (by decide), Int.emod_lt_of_pos _ (by decide)⟩
 · rintro σ H' ⟨st, x4, rfl, rfl, z0, z1⟩
   refine ⟨_, rfl, _, rfl, _, rfl, (by show 4 ≤ sizeLine; decide), fun p5 hp5 => ?_⟩
   have s5 := zaf hp5 (.lst [V.ref p, V.ref p', V.int st, V.int 0])
   exact q p5 p p' _ ⟨⟨gs, ls, st, 0, zad, s5 _ _ g2, s5 _ _ h2, gz, lz, lb, z0, z1, by decide, by decide⟩, zam h1 n2, (zam g2 hp5).symm, (zam h2 hp5).symm⟩ (t2.trans s5) (t2.free hp5) pn1
theorem zfx (F : Fun K "_law_take" "_law_take" zcf f fd)  : FnOk P w K mg base CX0 1 f fd ["well", "many"] (zgZ) := by
 refine F.ok sc_law_take (fun vs H Q E h => ?_) (fun cdv A outer s H vs Q E hr h => ?_)
 · obtain ⟨b, g, l, n, many, rfl, Bg, hn, hm, hm2, q⟩ := h
   rfl
 obtain ⟨b, g, l, n, many, rfl, Bg, hn, hm, hm2, q⟩ := h
 refine ⟨_, (zab (zaW (zax (zgg (zbs hr)) (zaX zaJ (pv 0) zae (fun _ _ => rfl)) (zb0 zac) (zaA _)) (zab (zao (i := 2) sc_law_take.nd rfl (Or.inl rfl) (zaX zaJ (zaX zaJ (pv 0) zae (fun _ _ => rfl)) zae (fun _ _ => rfl)))
  (zab (zc6 (zat zgh (pv 2) (pv 1)) (zho (zaX zaJ (pv 0) zae (fun _ _ => rfl)) zae zd6))
  (zab (zaW (zax ziI (pv 2) (pv 1) (zaA _)) (zah (zbQ (zee PySem.F.plainAttrs_list PySem.F.slot_list_pop PySem.F.type_list_pop ziK (zaX zaJ (pv 0) zae (fun _ _ => rfl)) (zaa zae zac)))) zas)
  (zah (zap (zat zcH (pv 2) (pv 1))))))) zas)
  (zab (zc6 (zat zaS (zaX zaJ (pv 0) zae (fun _ _ => rfl)) zae) (zho (pv 0) zae zd6))
  (zab (zao (i := 3) sc_law_take.nd rfl (Or.inl rfl) zae)
  (zab (zaW (zax (zgg (zbs hr)) (zaX zaJ (pv 0) zae (fun _ _ => rfl)) (zb0 zac) (zaA _)) (zah (zao (i := 3) sc_law_take.nd rfl (Or.inl rfl) (zat zaS (zaX zaJ (zaX zaJ (pv 0) zae (fun _ _ => rfl)) (zat zcH (zaX zaJ (pv 0) zae (fun _ _ => rfl)) (zai zaC rfl B.len_ zbN (zaa (zaX zaJ (pv 0) zae (fun _ _ => rfl)) zac))) (fun _ _ => rfl)) zae))) zas)
  (zab (zao (i := 2) sc_law_take.nd rfl (Or.inl rfl) (zat zcH (zat zbI (zat zaS (zaX zaJ (pv 0) zae (fun _ _ => rfl)) (zat zcT (pv 3) (zat zaS (zat zcT (zaX zaJ (pv 0) zae (fun _ _ => rfl)) zae) zae))) zae) zae))
  (zab (zc6 (zat zcH (zat zaS (zat zaS (zat zcT (zaX zaJ (pv 0) zae (fun _ _ => rfl)) zae) (pv 2)) (zaX zaJ (pv 0) zae (fun _ _ => rfl))) zae) (zho (pv 0) zae zd6))
  (zah (zap (zat zcH (zat zgh (pv 2) zae) (pv 1)))))))))), ?_⟩
 obtain ⟨gs, ls, sd, c, e1, e2, e3, z1, z2, z4, z5, z6, z7, z8⟩ := id Bg.ex
 refine ⟨_, rfl, b, _, 0, _, rfl, rfl, SqL.of e1, rfl, sz0, fun p hp => ?_⟩
 have s1 := zaf hp (.lst [])
 have B2 := Bg.same s1
 have e1' := s1 _ _ e1
 have e2' := s1 _ _ e2
 have e3' := s1 _ _ e3
 refine zkB (SqL.of e2') (SqL.of zad) ⟨_, rfl, ?_⟩
 generalize upd H p (.lst []) = H2 at *
 have S2 : SameB b g H H2 := s1.sameB
 clear s1
 have bg := Bg.bg
 have bl := Bg.bl
 have gl := Bg.gl
 cases gs with
 | cons x r =>
  refine iteT ?_
  refine ⟨_, rfl, b, _, 0, _, rfl, rfl, SqL.of e1', rfl, g, _, 0, _, rfl, rfl, SqL.of e2', at0, ?_⟩
  refine ⟨_, rfl, _, rfl, _, _, rfl, rfl, ⟨hm, Int.lt_of_lt_of_le hm2 (by decide)⟩, _, rfl, b, _, 0, _, rfl, rfl, SqL.of e1', rfl, g, _, 0, 0, rfl, rfl, e2', ix0, ?_⟩
  have f2 : (upd H2 g (.lst (((x :: r).map V.int).set 0 (V.int (x / many))))) g = some (.lst (((x / many) :: r).map V.int)) := zad
  have f1 : (upd H2 g (.lst (((x :: r).map V.int).set 0 (V.int (x / many))))) b = some (.lst [V.ref g, V.ref l, V.int sd, V.int c]) := by rw [zak bg]; exact e1'
  have f3 : (upd H2 g (.lst (((x :: r).map V.int).set 0 (V.int (x / many))))) l = some (.lst (ls.map V.int)) := by rw [zak (Ne.symm gl)]; exact e3'
  have S3 : SameB b g H (upd H2 g (.lst (((x :: r).map V.int).set 0 (V.int (x / many))))) := fun a o h1 h2 h3 => by rw [zak h3]; exact S2 a o h1 h2 h3
  dsimp only
  generalize upd H2 g (.lst (((x :: r).map V.int).set 0 (V.int (x / many)))) = H3 at *
  refine ⟨_, rfl, _, rfl, _, _, rfl, rfl, _, rfl, ite2 (fun _ => ?_) (fun _ => ?_)⟩
  · refine ⟨_, rfl, b, _, 0, _, rfl, rfl, SqL.of f1, rfl, .inl ⟨rfl, _, SqL.of f2⟩, g, _, 0, 0, _, rfl, rfl, f2, by decide, by decide, (zfR (ix0 (x := V.int (x / many)) (r := r.map V.int))).1, rfl, ?_⟩
    refine ⟨_, rfl, _, rfl, _, _, rfl, rfl, hm, q _ _ (Int.emod_nonneg _ (by omega)) (Int.emod_lt_of_pos _ hm) ⟨⟨r, ls, sd, c, ?_, zad, ?_, by simp only [List.length_cons] at z1; omega, z2, z4, z5, z6, z7, by omega⟩, gl, bg, bl⟩ ?_⟩
    · rw [zak bg]; exact f1
    · rw [zak (Ne.symm gl)]; exact f3
    · intro a o h1 h2 h3
      rw [zak h3]
      exact S3 a o h1 h2 h3
  · exact ⟨_, rfl, _, rfl, _, _, rfl, rfl, hm, q _ _ (Int.emod_nonneg _ (by omega)) (Int.emod_lt_of_pos _ hm) ⟨⟨x / many :: r, ls, sd, c, f1, f2, f3, by simp only [List.length_cons] at z1 ⊢; omega, z2, z4, z5, z6, z7, by omega⟩, gl, bg, bl⟩ S3⟩
 | nil =>
  refine iteF ?_
  refine ⟨_, rfl, b, _, 3, _, rfl, rfl, SqL.of e1', rfl, _, _, rfl, rfl, _, rfl, b, _, 3, 3, rfl, rfl, e1', rfl, ?_⟩
  have f1 : (upd H2 b (.lst ([V.ref g, V.ref l, V.int sd, V.int c].set 3 (V.int (c + 1))))) b = some (.lst [V.ref g, V.ref l, V.int sd, V.int (c + 1)]) := zad
  have f2 : (upd H2 b (.lst ([V.ref g, V.ref l, V.int sd, V.int c].set 3 (V.int (c + 1))))) g = some (.lst []) := by rw [zak (Ne.symm bg)]; exact e2'
  have f3 : (upd H2 b (.lst ([V.ref g, V.ref l, V.int sd, V.int c].set 3 (V.int (c + 1))))) l = some (.lst (ls.map V.int)) := by rw [zak (Ne.symm bl)]; exact e3'
  have S3 : SameB b g H (upd H2 b (.lst ([V.ref g, V.ref l, V.int sd, V.int c].set 3 (V.int (c + 1))))) := fun a o h1 h2 h3 => by rw [zak h2]; exact S2 a o h1 h2 h3
  dsimp only
  generalize upd H2 b (.lst ([V.ref g, V.ref l, V.int sd, V.int c].set 3 (V.int (c + 1)))) = H3 at *
  have c1 : 0 ≤ c + 1 := by omega
  have c2 : c + 1 ≤ 2 ^ 41 := by omega
  refine zbj ?_
  dsimp only
  refine zbB (fun σ' H' => ∃ (cell : Int), σ' = [some (.ref b), some (.int many), none, some (.int cell)] ∧ 1 ≤ cell ∧ cell ≤ wM ∧ H' b = some (.lst [V.ref g, V.ref l, V.int sd, V.int (c + 1)]) ∧ H' g = some (.lst []) ∧ H' l = some (.lst (ls.map V.int)) ∧ SameB b g H H') (fun Z hZ => ?_) ?_
  · refine ⟨_, rfl, b, _, 1, _, rfl, rfl, SqL.of f1, rfl, sz0, fun p4 hp4 => ?_⟩
    have s4 := zaf hp4 (.lst [])
    have k1 := s4 _ _ f1
    have k2 := s4 _ _ f2
    have k3 := s4 _ _ f3
    have S4 := S3.trans s4.sameB
    refine zkB (SqL.of k3) (SqL.of zad) ⟨_, rfl, ?_⟩
    generalize upd H3 p4 (.lst []) = H4 at *
    cases ls with
    | nil => exact iteF (hZ _ _ ⟨1, rfl, by decide, by decide, k1, k2, k3, S4⟩)
    | cons y ys =>
     refine iteT ?_
     have lpos : (0 : Int) < (((y :: ys).map V.int).length : Int) := by rw [List.length_map, List.length_cons]; omega
     have i0 := Int.emod_nonneg (c + 1) (Int.ne_of_gt lpos)
     have i1 := Int.emod_lt_of_pos (c + 1) lpos
     obtain ⟨v, hv, hvm⟩ := zkX (ls := y :: ys) i0 (by rw [List.length_map] at i1 ⊢; exact i1)
     obtain ⟨v0, v1⟩ := z4 v hvm
     refine ⟨_, rfl, b, _, 1, _, rfl, rfl, SqL.of k1, rfl, _, rfl, b, _, 3, _, rfl, rfl, SqL.of k1, rfl, _, rfl, b, _, 1, _, rfl, rfl, SqL.of k1, rfl, l, _, rfl, .inl (SqL.of k3), _, _, rfl, rfl, lpos, l, _, _, _, rfl, rfl, SqL.of k3, hv, _, _, rfl, rfl, ?_⟩
     exact hZ _ _ ⟨v + 1, rfl, by omega, by omega, k1, k2, k3, S4⟩
  rintro σ' H4 ⟨cell, rfl, l0, l1, k1, k2, k3, S4⟩
  have sm : ∀ z : Int, z.natAbs < 2 ^ 900 → z.natAbs < 2 ^ 1000 := fun z h => Nat.lt_of_lt_of_le h (by decide)
  have b3 : (c + 1).natAbs < 2 ^ 900 := Nat.lt_of_le_of_lt (show (c + 1).natAbs ≤ 2 ^ 41 by omega) (by decide)
  have b4 : ((c + 1) * 3163 + 1).natAbs < 2 ^ 900 := Nat.lt_of_le_of_lt (show ((c + 1) * 3163 + 1).natAbs ≤ 2 ^ 60 by omega) (by decide)
  have b5 : cell.natAbs < 2 ^ 900 := Nat.lt_of_le_of_lt (show cell.natAbs ≤ 2 ^ 60 by unfold wM at l1; omega) (by decide)
  have big : (sd + cell * ((c + 1) * 3163 + 1)).natAbs < 2 ^ 1000 := by
   have a5 : cell * ((c + 1) * 3163 + 1) ≤ 2 ^ 60 * 2 ^ 60 := Int.mul_le_mul (by unfold wM at l1; omega) (by omega) (by omega) (by decide)
   have a6 : 0 ≤ cell * ((c + 1) * 3163 + 1) := Int.mul_nonneg (by omega) (by omega)
   generalize cell * ((c + 1) * 3163 + 1) = y at *
   have a8 : (sd + y).natAbs < 2 ^ 125 := by unfold wM at z6; omega
   exact Nat.lt_of_lt_of_le a8 (by decide)
  refine ⟨_, rfl, b, _, 2, _, rfl, rfl, SqL.of k1, rfl, _, rfl, _, rfl, b, _, 3, _, rfl, rfl, SqL.of k1, rfl, _, _, rfl, rfl, ⟨sm _ b3, by decide⟩, _, _, rfl, rfl, _, _, rfl, rfl, ⟨sm _ b5, sm _ b4⟩, _, _, rfl, rfl, _, _, rfl, rfl, ⟨by decide, by decide, big⟩, _, _, rfl, rfl, (by show (0 : Int) < 2147483563; decide), ?_⟩
  dsimp only
  generalize (sd + cell * ((c + 1) * 3163 + 1)) ^ (5 : Int).toNat = y
  have y0 := Int.emod_nonneg y (show (2147483563 : Int) ≠ 0 by decide)
  have y1 := Int.emod_lt_of_pos y (show (0 : Int) < 2147483563 by decide)
  generalize y % 2147483563 = u at *
  have b6 : sd.natAbs < 2 ^ 1000 := sm _ (Nat.lt_of_le_of_lt (show sd.natAbs ≤ 2 ^ 60 by unfold wM at z6; omega) (by decide))
  refine ⟨_, rfl, b, _, 2, _, rfl, rfl, SqL.of k1, rfl, _, _, rfl, rfl, ⟨b6, by decide⟩, _, rfl, _, _, rfl, rfl, _, rfl, b, _, 3, _, rfl, rfl, SqL.of k1, rfl, _, _, rfl, rfl, _, _, rfl, rfl, (by show (0 : Int) < 2147483563; decide), ?_⟩
  refine ⟨_, rfl, b, _, 2, 2, rfl, rfl, k1, rfl, ?_⟩
  dsimp only
  generalize sd * 40692 + u + (c + 1) = v
  have v0 := Int.emod_nonneg v (show (2147483563 : Int) ≠ 0 by decide)
  have v1 := Int.emod_lt_of_pos v (show (0 : Int) < 2147483563 by decide)
  generalize v % 2147483563 = t at *
  refine ⟨_, rfl, _, _, rfl, rfl, ⟨by decide, by decide⟩, _, rfl, _, _, rfl, rfl, hm, ?_⟩
  refine q _ _ (Int.emod_nonneg _ (by omega)) (Int.emod_lt_of_pos _ hm) ⟨⟨[], ls, t, c + 1, zad, ?_, ?_, by simp, z2, z4, v0, v1, c1, by omega⟩, gl, bg, bl⟩ ?_
  · rw [zak (Ne.symm bg)]; exact k2
  · rw [zak (Ne.symm bl)]; exact k3
  · intro a o h1 h2 h3
    rw [zak h2]
    exact S4 a o h1 h2 h3
theorem zfB (F : Fun K "_law_name" "_law_name" zbK f fd) (G_law_take : Γ19 P w K mg base) : FnOk P w K mg base CX0 2 f fd ["well", "most"] (zg3) := by
 refine F.ok sc_law_name (fun vs H Q E h => ?_) (fun cdv A outer s H vs Q E hr h => ?_)
 · obtain ⟨b, g, l, n, most, rfl, Bg, hn, m1, m8, q⟩ := h
   rfl
 obtain ⟨b, g, l, n, most, rfl, Bg, hn, m1, m8, q⟩ := h
 refine ⟨_, (zab (zao (i := 2) sc_law_name.nd rfl (Or.inr rfl) zeL)
  (zah (zap (zee PySem.F.plainAttrs_str PySem.F.slot_str_join PySem.F.type_str_join zjO zeL (zaa (zed (N' := ["k", "well", "letters"]) (js := [none, some 0, some 2]) rfl (zcL (N := ["well", "most", "letters"]) (outer := zag zbK) (by decide +kernel)) (zcF rfl B.range_ (zaa (zat zaS zae (zau G_law_take (hr.mono (by decide)) rfl (zaa (pv 0) (zaa (pv 1) zac)))) zac)) (fun _ _ _ _ _ => (zaj (i := 0) (show List.Nodup (["k", "well", "letters"] : List Str) by decide +kernel) rfl (Or.inl rfl))) (fun _ _ _ _ _ => zbt) (fun _ _ _ _ _ => (zaX zje (pv 2) (zau G_law_take (hr.mono (by decide)) rfl (zaa (pv 1) (zaa zae zac))) (fun _ _ => rfl)))) zac))))), ?_⟩
 refine zbj ?_
 refine ⟨rfl, _, rfl, _, rfl, b, g, l, n, most, rfl, Bg, by omega, by omega, zeT (by omega), fun r H2 r0 r1 B2 S2 => ?_⟩
 refine ⟨_, _, rfl, rfl, _, rfl, by omega, by omega, fun p hp => ?_⟩
 obtain ⟨pb, pg, pl⟩ := B2.free hp
 have s3 := zaf hp (.lst [])
 have np : H p = none := B2.back S2 p hp
 refine zen (n := (1 + r).toNat) (fun i σ' ys H' => (∃ v, σ' = [v, some (.ref b), some (.str "abcdefghijklmnopqrstuvwxyz")]) ∧ SameB b g H H' ∧ Well H' b g l (n + 1 + i) ∧ H' p = some (.lst ys) ∧ ∃ cs : List Nat, ys = (cs.map fun c => (⟨#[c]⟩ : Str)).map V.str ∧ cs.length = i ∧ ∀ c ∈ cs, zbH c = true) ?_ ?_ ?_ ?_
 · exact ⟨⟨none, rfl⟩, S2.trans s3.sameB, (B2.same s3).mono (by omega), zad, [], rfl, rfl, fun c hc => by simp at hc⟩
 · rintro i σ' ys H' hi ⟨_, _, _, h1, cs, rfl, h2, _⟩
   exact ⟨h1, by rw [List.length_map, List.length_map, h2]; exact zav (by omega)⟩
 · rintro i σ' ys H4 N hi ⟨⟨v, rfl⟩, S4, B4, h1, cs, rfl, h2, h3⟩ hN
   refine ⟨_, rfl, _, rfl, b, g, l, _, 26, rfl, B4, by omega, by decide, by decide, fun k H5 k0 k1 B5 S5 => ?_⟩
   obtain ⟨c, hc, ok⟩ := zkW k0 k1
   have h5 := S5 _ _ h1 pb pg
   refine ⟨_, _, c, rfl, rfl, (by show 26 ≤ sizeLine; decide), hc, h5, hN _ _ _ ⟨⟨_, rfl⟩, ?_, ?_, zad, cs ++ [c], ?_, ?_, ?_⟩⟩
   · exact (S4.trans S5).off np
   · exact (B5.off pb pg pl).mono (by omega)
   · rw [List.map_append, List.map_append]; rfl
   · rw [List.length_append, h2]; rfl
   · intro c' hc'
     rcases List.mem_append.mp hc' with z | z
     · exact h3 c' z
     · rw [List.mem_singleton.mp z]; exact ok
 · rintro σ' ys H4 ⟨_, S4, B4, h1, cs, rfl, h2, h3⟩
   refine ⟨_, _, _, rfl, rfl, SqL.of h1, zjR cs (by omega), q _ _ (zgM (by omega) (by omega) h3) (B4.mono (by omega)) S4⟩
theorem zeg (F : Fun K "_law_fields" "_law_fields" zbD f fd) (G_law_name : Γ20 P w K mg base) (G_law_take : Γ19 P w K mg base) : FnOk P w K mg base CX0 3 f fd ["well", "many"] (zdq) := by
 refine F.ok sc_law_fields (fun vs H Q E h => ?_) (fun cdv A outer s H vs Q E hr h => ?_)
 · obtain ⟨b, g, l, n, many, rfl, Bg, hn, m1, m6, q⟩ := h
   rfl
 obtain ⟨b, g, l, n, many, rfl, Bg, hn, m1, m6, q⟩ := h
 refine ⟨_, (zab (zao (i := 2) sc_law_fields.nd rfl (Or.inl rfl) zeL)
  (zab (zao (i := 3) sc_law_fields.nd rfl (Or.inl rfl) (zb0 (zaa (zau G_law_name (hr.mono (by decide)) rfl (zaa (pv 0) (zaa zae zac))) zac)))
  (zab (zct PassesOwn.never rfl (zcF rfl B.range_ (zaa (zau G_law_take (hr.mono (by decide)) rfl (zaa (pv 0) (zaa (pv 1) zac))) zac)) (zaj (i := 4) sc_law_fields.nd rfl (Or.inl rfl)) (zab (zao (i := 5) sc_law_fields.nd rfl (Or.inl rfl) (zau G_law_take (hr.mono (by decide)) rfl (zaa (pv 0) (zaa zae zac))))
  (zab (zao (i := 6) sc_law_fields.nd rfl (Or.inl rfl) (zaX zaJ (pv 3) (zau G_law_take (hr.mono (by decide)) rfl (zaa (pv 0) (zaa (zai zaC rfl B.len_ zbN (zaa (pv 3) zac)) zac))) (fun _ _ => rfl)))
  (zab (zao (i := 7) sc_law_fields.nd rfl (Or.inl rfl) (zaX zje (pv 2) (zau G_law_take (hr.mono (by decide)) rfl (zaa (pv 0) (zaa zae zac))) (fun _ _ => rfl)))
  (zab (zao (i := 8) sc_law_fields.nd rfl (Or.inl rfl) (zau G_law_take (hr.mono (by decide)) rfl (zaa (pv 0) (zaa (zai zda rfl B.len_ zbN (zaa (pv 6) zac)) zac))))
  (zab (zao (i := 9) sc_law_fields.nd rfl (Or.inl rfl) (zbF zfo (zaX zaJ (zb0 (zaa (zat zcr (pv 7) (pv 6)) (zaa (zat zcr (pv 6) (pv 7)) (zaa (zat zcr (zat zcr (zbF zfo (pv 6) zb7 (zb6 (pv 8))) (pv 7)) (zbF zfo (pv 6) (zb6 (zat zaS (pv 8) zae)) zb7)) (zaa (pv 7) zac))))) (pv 5) (fun _ _ => rfl)) zb7 (zb6 zae)))
  (zab (zaW (zax zcU (pv 5) zae (zaA _)) (zah (zao (i := 9) sc_law_fields.nd rfl (Or.inl rfl) (zau G_law_name (hr.mono (by decide)) rfl (zaa (pv 0) (zaa zae zac))))) zas)
  (zah (zaW (zax zeQ (pv 9) (pv 3) (by with_unfolding_all rfl)) (zah (zbQ (zee PySem.F.plainAttrs_list PySem.F.slot_list_append PySem.F.type_list_append zbk (pv 3) (zaa (pv 9) zac)))) zas)))))))))
  (zah (zap (zai ze3 rfl B.sorted_ ze5 (zaa (pv 3) zac))))))), ?_⟩
 refine zbj ?_
 refine ⟨_, rfl, b, g, l, n, 7, rfl, Bg, by omega, by decide, by decide, fun x0 H1 ok0 B1 S1 => ?_⟩
 refine ⟨(by show 1 ≤ sizeLine; decide), fun r hr' => ?_⟩
 obtain ⟨rb, rg, rl⟩ := B1.free hr'
 have nr : H r = none := B1.back S1 r hr'
 have s2 := zaf hr' (.lst [V.str x0])
 have e2 : (upd H1 r (.lst [V.str x0])) r = some (.lst [V.str x0]) := zad
 have B2 := B1.same s2
 have S2 := S1.trans s2.sameB
 generalize upd H1 r (.lst [V.str x0]) = H2 at *
 refine ⟨_, rfl, _, rfl, b, g, l, _, many, rfl, B2, by omega, by omega, zeT (by omega), fun c H3 c0 c1 B3 S3 => ?_⟩
 have e3 := S3 _ _ e2 rb rg
 have S03 := S2.trans S3
 refine ⟨c, rfl, by omega, by omega, zeZ (lo := 0) (n := c.toNat) (fun i σ H' => (∃ y4 y5 y6 y7 y8 y9, σ = [some (.ref b), some (.int many), some (.str "abcdefghijklmnopqrstuvwxyz"), some (.ref r), y4, y5, y6, y7, y8, y9]) ∧ SameB b g H H' ∧ Well H' b g l (n + 13 + 20 * i) ∧ ∃ ts : List Str, H' r = some (.lst (ts.map V.str)) ∧ ts.Nodup ∧ 1 ≤ ts.length ∧ ts.length ≤ i + 1 ∧ ∀ t ∈ ts, FieldOk t) ?_ ?_ ?_⟩
 · exact ⟨⟨none, none, none, none, none, none, rfl⟩, S03, B3.mono (by omega), [x0], e3, by simp, by simp, by simp, fun t ht => by rw [List.mem_singleton.mp ht]; exact ok0⟩
 · rintro i σ H4 hi ⟨⟨y4, y5, y6, y7, y8, y9, rfl⟩, S4, B4, ts, e4, nd, l1, l2, ok⟩
   refine ⟨_, rfl, b, g, l, _, 4, rfl, B4, by omega, by decide, by decide, fun pick H5 p0 p1 B5 S5 => ?_⟩
   have e5 := S5 _ _ e4 rb rg
   refine ⟨_, rfl, _, rfl, _, rfl, r, _, rfl, .inl (SqL.of e5), b, g, l, _, _, rfl, B5, by omega, by rw [List.length_map]; omega, zeT (by rw [List.length_map]; omega), fun k H6 k0 k1 B6 S6 => ?_⟩
   have e6 := S6 _ _ e5 rb rg
   rw [List.length_map] at k1
   obtain ⟨j, rfl⟩ : ∃ j : Nat, k = (j : Int) := ⟨k.toNat, by omega⟩
   obtain ⟨first, ef⟩ : ∃ f, ts[j]? = some f := ⟨ts[j]'(by omega), List.getElem?_eq_getElem (by omega)⟩
   have hf : atI (ts.map V.str) (j : Int) = some (V.str first) := zbX (by rw [List.getElem?_map, ef]; rfl)
   have okf := ok first (List.mem_of_getElem? ef)
   refine ⟨r, _, _, _, rfl, rfl, SqL.of e6, hf, ?_⟩
   refine ⟨_, rfl, _, rfl, b, g, l, _, 26, rfl, B6, by omega, by decide, by decide, fun k H7 k0 k1 B7 S7 => ?_⟩
   have e7 := S7 _ _ e6 rb rg
   obtain ⟨c, hc, okc⟩ := zkW k0 k1
   refine ⟨_, _, c, rfl, rfl, (by show 26 ≤ sizeLine; decide), hc, ?_⟩
   have okl : FieldOk (⟨#[c]⟩ : Str) := ⟨by show 1 ≤ 1; decide, by show 1 ≤ 8; decide, fun c' hc' => by
    have : c' = c := by simpa using hc'
    rw [this]; exact okc⟩
   generalize (⟨#[c]⟩ : Str) = letter at *
   have f1 := okf.one
   have f8 := okf.eight
   have g1 := okl.one
   have g8 := okl.eight
   have sz : (100 : Nat) ≤ sizeLine := by decide
   refine ⟨_, rfl, _, rfl, _, rfl, by omega, b, g, l, _, _, rfl, B7, by omega, by omega, zeT (by omega), fun at' H8 a0 a1 B8 S8 => ?_⟩
   have e8 := S8 _ _ e7 rb rg
   have S48 := S4.trans (S5.trans (S6.trans (S7.trans S8)))
   refine ⟨_, rfl, _, rfl, _, _, rfl, rfl, by omega, _, rfl, _, rfl, _, _, rfl, rfl, by omega, _, rfl, _, rfl, _, rfl, first, rfl, by omega, fun z1 a1' _ a3 _ => ?_⟩
   refine ⟨_, rfl, _, _, rfl, rfl, by omega, _, rfl, _, rfl, _, _, rfl, rfl, _, rfl, first, rfl, by omega, fun z2 b1 _ b3 _ => ?_⟩
   have la : (z1 ++ letter).length = z1.length + letter.length := by show (z1.cps ++ letter.cps).size = _; rw [Array.size_append]; rfl
   refine ⟨_, _, rfl, rfl, by omega, _, rfl, (by show 4 ≤ sizeLine; decide), fun wl hwl => ?_⟩
   have s9 := zaf hwl (.lst [V.str (letter ++ first), V.str (first ++ letter), V.str (z1 ++ letter ++ z2), V.str letter])
   have e9 : (upd H8 wl (.lst [V.str (letter ++ first), V.str (first ++ letter), V.str (z1 ++ letter ++ z2), V.str letter])) wl = some (.lst [V.str (letter ++ first), V.str (first ++ letter), V.str (z1 ++ letter ++ z2), V.str letter]) := zad
   have e8 := s9 _ _ e8
   have B9 := B8.same s9
   have S49 := S48.trans s9.sameB
   generalize upd H8 wl (.lst [V.str (letter ++ first), V.str (first ++ letter), V.str (z1 ++ letter ++ z2), V.str letter]) = H9 at *
   have mem2 : ∀ (x y : Str) (c : Nat), c ∈ (x ++ y).cps.toList → c ∈ x.cps.toList ∨ c ∈ y.cps.toList := fun x y c hc => by
    have : c ∈ (x.cps ++ y.cps).toList := hc
    rw [Array.toList_append] at this
    exact List.mem_append.mp this
   have len2 : ∀ x y : Str, (x ++ y).length = x.length + y.length := fun x y => by show (x.cps ++ y.cps).size = _; rw [Array.size_append]; rfl
   obtain ⟨W, hW, w1, w100, wl'⟩ : ∃ W : Str, atI [V.str (letter ++ first), V.str (first ++ letter), V.str (z1 ++ letter ++ z2), V.str letter] pick = some (.str W) ∧ 1 ≤ W.length ∧ W.length ≤ 100 ∧ ∀ c ∈ W.cps.toList, zbH c = true := by
    have : pick = 0 ∨ pick = 1 ∨ pick = 2 ∨ pick = 3 := by omega
    rcases this with rfl | rfl | rfl | rfl
    · refine ⟨_, rfl, by rw [len2]; omega, by rw [len2]; omega, fun c hc => ?_⟩
      rcases mem2 _ _ c hc with z | z
      · exact okl.all c z
      · exact okf.all c z
    · refine ⟨_, rfl, by rw [len2]; omega, by rw [len2]; omega, fun c hc => ?_⟩
      rcases mem2 _ _ c hc with z | z
      · exact okf.all c z
      · exact okl.all c z
    · refine ⟨_, rfl, by rw [len2, len2]; omega, by rw [len2, len2]; omega, fun c hc => ?_⟩
      rcases mem2 _ _ c hc with z | z
      · rcases mem2 _ _ c z with z | z
        · exact okf.all c (a3 c z)
        · exact okl.all c z
      · exact okf.all c (b3 c z)
    · exact ⟨_, rfl, g1, by omega, okl.all⟩
   refine ⟨_, rfl, wl, _, _, _, rfl, rfl, SqL.of e9, hW, _, rfl, W, rfl, by omega, fun word v1 v2 v3 v4 => ?_⟩
   have okw : FieldOk word := ⟨v4 8 rfl rfl (by decide) w1, by have := v2 8 rfl (by decide); omega, fun c hc => wl' c (v3 c hc)⟩
   refine zbj ?_
   dsimp only
   refine zbB (fun σ' H' => ∃ word : Str, σ' = [some (.ref b), some (.int many), some (.str "abcdefghijklmnopqrstuvwxyz"), some (.ref r), some (.int (0 + (i : Int))), some (.int pick), some (.str first), some (.str letter), some (.int at'), some (.str word)] ∧ FieldOk word ∧ SameB b g H H' ∧ Well H' b g l (n + 13 + 20 * i + 17) ∧ H' r = some (.lst (ts.map V.str))) (fun Z hZ => ?_) ?_
   · refine ⟨_, rfl, rfl, _, rfl, ite2 (fun _ => ?_) (fun _ => ?_)⟩
     · exact ⟨_, rfl, b, g, l, _, 8, rfl, B9, by omega, by decide, by decide, fun x H10 ok10 B10 S10 => hZ _ _ ⟨x, rfl, ok10, S49.trans S10, B10.mono (by omega), S10 _ _ e8 rb rg⟩⟩
     · exact hZ _ _ ⟨word, rfl, okw, S49, B9.mono (by omega), e8⟩
   rintro σ' H10 ⟨word', rfl, okw', S10, B10, e10⟩
   have fl : (ts.map V.str).all zer = true := by
    rw [List.all_map]
    exact List.all_eq_true.mpr fun x _ => rfl
   refine ⟨_, rfl, _, rfl, r, _, rfl, .inl (SqL.of e10), rfl, fl, _, rfl, ?_⟩
   have inE : inV (.str word') (ts.map V.str) = decide (word' ∈ ts) := by
    unfold inV
    rw [List.any_map, Bool.eq_iff_iff, List.any_eq_true, decide_eq_true_iff]
    constructor
    · rintro ⟨x, hx, e⟩
      have : x = word' := by simpa [eqV] using e
      exact this ▸ hx
    · exact fun h => ⟨word', h, by simp [eqV]⟩
   rw [inE]
   by_cases hm : word' ∈ ts
   · rw [decide_eq_true hm]
     exact iteF ⟨⟨_, _, _, _, _, _, rfl⟩, S10, B10.mono (by omega), ts, e10, nd, l1, by omega, ok⟩
   · rw [decide_eq_false hm]
     refine iteT ⟨_, rfl, .inl ⟨rfl, _, SqL.of e10⟩, _, rfl, r, _, _, rfl, rfl, e10, (by rw [List.length_map]; exact zav (by omega)), ?_⟩
     refine ⟨⟨_, _, _, _, _, _, rfl⟩, S10.off nr, (B10.off rb rg rl).mono (by omega), ts ++ [word'], by rw [zad, List.map_append]; rfl, ?_, by rw [List.length_append]; omega, by rw [List.length_append]; simp; omega, fun t ht => ?_⟩
     · rw [List.nodup_append]
       exact ⟨nd, by simp, fun a ha b hb => by rw [List.mem_singleton.mp hb]; exact fun z => hm (z ▸ ha)⟩
     · rcases List.mem_append.mp ht with z | z
       · exact ok t z
       · rw [List.mem_singleton.mp z]; exact okw'
 · rintro σ H4 ⟨⟨y4, y5, y6, y7, y8, y9, rfl⟩, S4, B4, ts, e4, nd, l1, l2, ok⟩
   refine ⟨_, rfl, r, ts, rfl, SqL.of e4, by omega, fun z ms mp mso hz => ?_⟩
   have s5 := zaf hz (.lst (ms.map V.str))
   exact q z ms _ (B4.back S4 z hz) zad (zg7 mso (mp.nodup_iff.mpr nd)) (fun f hf => ok f (mp.mem_iff.mp hf)) (by rw [mp.length_eq]; exact l1) (by rw [mp.length_eq]; omega) ((B4.same s5).mono (by omega)) (S4.trans s5.sameB)
theorem zfD (F : Fun K "_law_base" "_law_base" zck f fd) (G_law_take : Γ19 P w K mg base) : FnOk P w K mg base CX0 2 f fd ["well"] (zg6) := by
 refine F.ok sc_law_base (fun vs H Q E h => ?_) (fun cdv A outer s H vs Q E hr h => ?_)
 · obtain ⟨b, g, l, n, rfl, Bg, hn, q⟩ := h
   rfl
 obtain ⟨b, g, l, n, rfl, Bg, hn, q⟩ := h
 refine ⟨_, (zab (zao (i := 1) sc_law_base.nd rfl (Or.inl rfl) (zau G_law_take (hr.mono (by decide)) rfl (zaa (pv 0) (zaa zae zac))))
  (zab (zao (i := 2) sc_law_base.nd rfl (Or.inl rfl) (zat zeP zae (zat zdy zae (zau G_law_take (hr.mono (by decide)) rfl (zaa (pv 0) (zaa zae zac))))))
  (zab (zaW (zax zcU (pv 1) zae (zaA _)) (zah (zap zae)) zas)
  (zab (zao (i := 3) sc_law_base.nd rfl (Or.inl rfl) (zau G_law_take (hr.mono (by decide)) rfl (zaa (pv 0) (zaa zae zac))))
  (zab (zaW (zax zcU (pv 1) zae (zaA _)) (zah (zao (i := 3) sc_law_base.nd rfl (Or.inl rfl) (zat zaS (zat zdy (zat zaS (zat zdy (pv 3) zae) (zau G_law_take (hr.mono (by decide)) rfl (zaa (pv 0) (zaa zae zac)))) zae) (zau G_law_take (hr.mono (by decide)) rfl (zaa (pv 0) (zaa zae zac)))))) zas)
  (zah (zap (zat zdy (pv 2) (zat zcH (pv 3) (zat zeP (zat zbI zae zae) zae)))))))))), ?_⟩
 have e15 : (10 : Int) ^ (15 : Int).toNat = 1000000000000000 := by decide
 refine ⟨_, rfl, b, g, l, n, 3, rfl, Bg, by omega, by decide, by decide, fun pick H1 p0 p1 B1 S1 => ?_⟩
 refine ⟨_, rfl, b, g, l, _, 2, rfl, B1, by omega, by decide, by decide, fun c H2 c0 c1 B2 S2 => ?_⟩
 have S02 := S1.trans S2
 refine ⟨_, _, rfl, rfl, .inl ⟨by decide, by decide⟩, _, _, rfl, rfl, ?_⟩
 refine ⟨_, rfl, rfl, _, rfl, ite2 (fun _ => q _ _ (by decide) (by decide) (B2.mono (by omega)) S02) (fun _ => ?_)⟩
 refine ⟨_, rfl, b, g, l, _, 100000, rfl, B2, by omega, by decide, by decide, fun m H3 m0 m1 B3 S3 => ?_⟩
 have S03 := S02.trans S3
 refine zbj ?_
 dsimp only
 refine zbB (fun σ' H' => ∃ m : Int, σ' = [some (.ref b), some (.int pick), some (.int (1 - 2 * c)), some (.int m)] ∧ 0 ≤ m ∧ SameB b g H H' ∧ Well H' b g l (n + 5)) (fun Z hZ => ?_) ?_
 · refine ⟨_, rfl, rfl, _, rfl, ite2 (fun _ => ?_) (fun _ => hZ _ _ ⟨m, rfl, m0, S03, B3.mono (by omega)⟩)⟩
   refine ⟨_, rfl, _, _, rfl, rfl, .inl ⟨by omega, by omega⟩, _, rfl, b, g, l, _, 100000, rfl, B3, by omega, by decide, by decide, fun m2 H4 m20 m21 B4 S4 => ?_⟩
   refine ⟨_, _, rfl, rfl, _, _, rfl, rfl, .inl ⟨by omega, by omega⟩, _, rfl, b, g, l, _, 100000, rfl, B4, by omega, by decide, by decide, fun m3 H5 m30 m31 B5 S5 => ?_⟩
   exact ⟨_, _, rfl, rfl, hZ _ _ ⟨_, rfl, by omega, S03.trans (S4.trans S5), B5.mono (by omega)⟩⟩
 rintro σ' H4 ⟨m, rfl, m0, S4, B4⟩
 refine ⟨_, rfl, _, rfl, _, _, rfl, rfl, pw10 (by decide) (by decide), _, _, rfl, rfl, _, _, rfl, rfl, (by show (0 : Int) < 10 ^ (15 : Int).toNat - 1000; decide), ?_⟩
 dsimp only
 rw [e15]
 have y0 := Int.emod_nonneg m (show (1000000000000000 - 1000 : Int) ≠ 0 by decide)
 have y1 := Int.emod_lt_of_pos m (show (0 : Int) < 1000000000000000 - 1000 by decide)
 generalize m % (1000000000000000 - 1000) = y at *
 have hc : c = 0 ∨ c = 1 := by omega
 refine ⟨_, _, rfl, rfl, .inl ⟨by omega, by omega⟩, q _ _ ?_ ?_ B4 S4⟩
 all_goals
  rcases hc with rfl | rfl
  all_goals omega
theorem zfC (F : Fun K "_law_grid" "_law_grid" zcj f fd) (G_law_take : Γ19 P w K mg base) (G_law_base : Γ22 P w K mg base) : FnOk P w K mg base CX0 3 f fd ["well"] (zg5) := by
 refine F.ok sc_law_grid (fun vs H Q E h => ?_) (fun cdv A outer s H vs Q E hr h => ?_)
 · obtain ⟨b, g, l, n, rfl, Bg, hn, q⟩ := h
   rfl
 obtain ⟨b, g, l, n, rfl, Bg, hn, q⟩ := h
 refine ⟨_, (zab (zao (i := 1) sc_law_grid.nd rfl (Or.inl rfl) (zau G_law_take (hr.mono (by decide)) rfl (zaa (pv 0) (zaa zae zac))))
  (zab (zao (i := 2) sc_law_grid.nd rfl (Or.inl rfl) zae)
  (zab (zaW (zax zcU (pv 1) zae (zaA _)) (zah (zao (i := 2) sc_law_grid.nd rfl (Or.inl rfl) (zat zaS zae (zau G_law_take (hr.mono (by decide)) rfl (zaa (pv 0) (zaa zae zac)))))) zas)
  (zab (zaW (zax zcU (pv 1) zae (zaA _)) (zah (zao (i := 2) sc_law_grid.nd rfl (Or.inl rfl) (zat zaS zae (zat zdy (zau G_law_take (hr.mono (by decide)) rfl (zaa (pv 0) (zaa zae zac))) (zau G_law_take (hr.mono (by decide)) rfl (zaa (pv 0) (zaa zae zac))))))) zas)
  (zah (zap (za9 (zaa (zai (zia rfl) rfl B.max_ zkU (zaa (zat zeP (zat zbI zae zae) (zat zbI zae zae)) (zaa (zai (ze4 rfl) rfl B.min_ zjj (zaa (zat zeP (zat zbI zae zae) (zat zbI zae zae)) (zaa (zau G_law_base (hr.mono (by decide)) rfl (zaa (pv 0) zac)) zac))) zac))) (zaa (pv 2) zac))))))))), ?_⟩
 have e15 : (10 : Int) ^ (15 : Int).toNat = 1000000000000000 := by decide
 have e13 : (10 : Int) ^ (13 : Int).toNat = 10000000000000 := by decide
 refine ⟨_, rfl, b, g, l, n, 4, rfl, Bg, by omega, by decide, by decide, fun pick H1 p0 p1 B1 S1 => ?_⟩
 refine zbj ?_
 dsimp only
 refine zis ?_
 refine zbB (fun σ' H' => ∃ m : Int, σ' = [some (.ref b), some (.int pick), some (.int m)] ∧ 1 ≤ m ∧ m ≤ 10 ^ 10 ∧ SameB b g H H' ∧ Well H' b g l (n + 2)) (fun Z hZ => ?_) ?_
 · refine ⟨_, rfl, rfl, _, rfl, ite2 (fun _ => ?_) (fun _ => hZ _ _ ⟨1, rfl, by decide, by decide, S1, B1.mono (by omega)⟩)⟩
   exact ⟨_, rfl, b, g, l, _, 1000, rfl, B1, by omega, by decide, by decide, fun m2 H4 m20 m21 B4 S4 => ⟨_, _, rfl, rfl, hZ _ _ ⟨_, rfl, by omega, by omega, S1.trans S4, B4.mono (by omega)⟩⟩⟩
 rintro σ' H2 ⟨m, rfl, m0, m1, S2, B2⟩
 refine zbB (fun σ' H' => ∃ m : Int, σ' = [some (.ref b), some (.int pick), some (.int m)] ∧ 1 ≤ m ∧ m ≤ 10 ^ 10 ∧ SameB b g H H' ∧ Well H' b g l (n + 4)) (fun Z hZ => ?_) ?_
 · refine ⟨_, rfl, rfl, _, rfl, ite2 (fun _ => ?_) (fun _ => hZ _ _ ⟨m, rfl, m0, m1, S2, B2.mono (by omega)⟩)⟩
   refine ⟨_, rfl, b, g, l, _, 100000, rfl, B2, by omega, by decide, by decide, fun m2 H4 m20 m21 B4 S4 => ?_⟩
   refine ⟨_, rfl, b, g, l, _, 100000, rfl, B4, by omega, by decide, by decide, fun m3 H5 m30 m31 B5 S5 => ?_⟩
   have x1 : m2 * m3 ≤ 99999 * 99999 := Int.mul_le_mul (by omega) (by omega) m30 (by decide)
   have x0 : 0 ≤ m2 * m3 := Int.mul_nonneg m20 m30
   exact ⟨_, _, rfl, rfl, .inl ⟨by omega, by omega⟩, _, _, rfl, rfl, hZ _ _ ⟨_, rfl, by show 1 ≤ 1 + m2 * m3; omega, by show 1 + m2 * m3 ≤ _; omega, S2.trans (S4.trans S5), B5.mono (by omega)⟩⟩
 rintro σ' H3 ⟨m, rfl, m0, m1, S3, B3⟩
 refine ⟨_, _, rfl, rfl, pw10 (by decide) (by decide), _, _, rfl, rfl, pw10 (by decide) (by decide), _, _, rfl, rfl, _, _, rfl, rfl, pw10 (by decide) (by decide), _, _, rfl, rfl, pw10 (by decide) (by decide), _, _, rfl, rfl, _, rfl, b, g, l, _, rfl, B3, by omega, fun x H4 x0 x1 B4 S4 => ?_⟩
 dsimp only
 rw [e15, e13]
 refine ⟨_, _, rfl, _, _, rfl, _, rfl, zq2, fun t ht => ?_⟩
 have s5 := zaf ht (.tup [V.int (if (if x < 1000000000000000 - 10000000000000 then x else 1000000000000000 - 10000000000000) > 10000000000000 - 1000000000000000 then (if x < 1000000000000000 - 10000000000000 then x else 1000000000000000 - 10000000000000) else 10000000000000 - 1000000000000000), V.int m])
 refine q t _ m _ zad ?_ ?_ m0 m1 ((B4.same s5).mono (by omega)) ((S3.trans S4).trans s5.sameB)
 · split <;> split <;> omega
 · split <;> split <;> omega
theorem zfy (F : Fun K "_law_span" "_law_span" zcg f fd) (G_law_take : Γ19 P w K mg base) : FnOk P w K mg base CX0 2 f fd ["well", "grid", "wide"] (zfh) := by
 refine F.ok sc_law_span (fun vs H Q E h => ?_) (fun cdv A outer s H vs Q E hr h => ?_)
 · obtain ⟨b, g, l, t, n, lo, sz, wide, rfl, Bg, hn, et, s1, s2, w1, w2, q⟩ := h
   rfl
 obtain ⟨b, g, l, t, n, lo, sz, wide, rfl, Bg, hn, et, s1, s2, w1, w2, q⟩ := h
 refine ⟨_, (zab (zao (i := 3) sc_law_span.nd rfl (Or.inl rfl) (zau G_law_take (hr.mono (by decide)) rfl (zaa (pv 0) (zaa zae zac))))
  (zab (zao (i := 4) sc_law_span.nd rfl (Or.inl rfl) (zat zaS (zaX zcJ (pv 1) zae (fun _ _ => rfl)) (zat zdy (zaX zcJ (pv 1) zae (fun _ _ => rfl)) (zau G_law_take (hr.mono (by decide)) rfl (zaa (pv 0) (zaa (pv 2) zac))))))
  (zab (zao (i := 5) sc_law_span.nd rfl (Or.inl rfl) (zat zeP (zat zaS (pv 4) (zat zdy (zaX zcJ (pv 1) zae (fun _ _ => rfl)) (zat zaS zae (zau G_law_take (hr.mono (by decide)) rfl (zaa (pv 0) (zaa (pv 2) zac)))))) zae))
  (zab (zaW (zax zcU (pv 3) zae (zaA _)) (zah (zap (za9 (zaa zeN (zaa zeN zac))))) zas)
  (zab (zaW (zax zcU (pv 3) zae (zaA _)) (zah (zap (za9 (zaa zeN (zaa (pv 5) zac))))) zas)
  (zah (zap (zcq (zax zcU (pv 3) zae (zaA _)) (za9 (zaa (pv 4) (zaa zeN zac))) (za9 (zaa (pv 4) (zaa (pv 5) zac))))))))))), ?_⟩
 refine ⟨_, rfl, b, g, l, n, 8, rfl, Bg, by omega, by decide, by decide, fun pick H1 p0 p1 B1 S1 => ?_⟩
 have e1 := Bg.tup S1 et
 refine ⟨_, rfl, t, _, 0, _, rfl, rfl, SqT.of e1, rfl, _, rfl, t, _, 1, _, rfl, rfl, SqT.of e1, rfl, _, rfl, _, rfl, b, g, l, _, wide, rfl, B1, by omega, by omega, zeT (by omega), fun x H2 x0 x1 B2 S2 => ?_⟩
 have e2 := B1.tup S2 e1
 refine ⟨_, _, rfl, rfl, .inl ⟨by omega, by omega⟩, _, _, rfl, rfl, ?_⟩
 refine ⟨_, rfl, _, rfl, t, _, 1, _, rfl, rfl, SqT.of e2, rfl, _, rfl, _, rfl, b, g, l, _, wide, rfl, B2, by omega, by omega, zeT (by omega), fun y H3 y0 y1 B3 S3 => ?_⟩
 have S03 := S1.trans (S2.trans S3)
 refine ⟨_, _, rfl, rfl, _, _, rfl, rfl, .inl ⟨by omega, by omega⟩, _, _, rfl, rfl, _, _, rfl, rfl, ?_⟩
 have hp : 1 ≤ sz * (1 + y) := by
  have : 1 * 1 ≤ sz * (1 + y) := Int.mul_le_mul s1 (by omega) (by decide) (by omega)
  omega
 dsimp only
 generalize sz * (1 + y) = d at *
 generalize lo + sz * x = L at *
 have fin : ∀ (a b' : Option Int), leO a b' = true → ∀ r, H3 r = none → Q (.ref r) (upd H3 r (.tup [eV a, eV b'])) := fun a b' h r hr => q r a b' _ zad h ((B3.same (zaf hr _)).mono (by omega)) (S03.trans (zaf hr _).sameB)
 refine ⟨_, rfl, rfl, _, rfl, ite2 (fun _ => ⟨zq2, fin none none rfl⟩) (fun _ => ?_)⟩
 refine ⟨_, rfl, rfl, _, rfl, ite2 (fun _ => ⟨_, rfl, zq2, fin none (some (L + d - 1)) rfl⟩) (fun _ => ?_)⟩
 refine ⟨_, rfl, rfl, _, rfl, ite2 (fun _ => ⟨_, rfl, zq2, fin (some L) none rfl⟩) (fun _ => ⟨_, rfl, _, rfl, zq2, fin (some L) (some (L + d - 1)) (decide_eq_true (by omega))⟩)⟩
theorem zfv (F : Fun K "_law_wish" "_law_wish" zce f fd) (G_law_take : Γ19 P w K mg base) (G_law_span : Γ24 P w K mg base) : FnOk P w K mg base CX0 3 f fd ["well", "names", "grid", "wide"] (zfd) := by
 refine F.ok sc_law_wish (fun vs H Q E h => ?_) (fun cdv A outer s H vs Q E hr h => ?_)
 · obtain ⟨b, g, l, a, t, n, lo, sz, wide, fs, rfl, Bg, hn, FA, et, s1, s2, w1, w2, q⟩ := h
   rfl
 obtain ⟨b, g, l, a, t, n, lo, sz, wide, fs, rfl, Bg, hn, FA, et, s1, s2, w1, w2, q⟩ := h
 refine ⟨_, (zab (zao (i := 4) sc_law_wish.nd rfl (Or.inl rfl) (zb0 zac))
  (zab (zct PassesOwn.never rfl (zbR (pv 1)) (zaj (i := 5) sc_law_wish.nd rfl (Or.inl rfl)) (zah (zaW (zax zkw (zau G_law_take (hr.mono (by decide)) rfl (zaa (pv 0) (zaa zae zac))) zae (zaA _)) (zab (zc6 (zau G_law_span (hr.mono (by decide)) rfl (zaa (pv 0) (zaa (pv 2) (zaa (pv 3) zac)))) (zcu rfl (zaq (zaj (i := 6) sc_law_wish.nd rfl (Or.inl rfl)) (zaq (zaj (i := 7) sc_law_wish.nd rfl (Or.inl rfl)) zbm))))
  (zah (zbQ (zee PySem.F.plainAttrs_list PySem.F.slot_list_append PySem.F.type_list_append zbk (pv 4) (zaa (za9 (zaa (pv 5) (zaa (pv 6) (zaa (pv 7) zac)))) zac))))) zas)))
  (zah (zap (zcG zcM rfl B.tuple_ zbW (zaa (pv 4) zac)))))), ?_⟩
 refine ⟨sz0, fun r hr' => ?_⟩
 obtain ⟨rb, rg, rl⟩ := Bg.free hr'
 have s0 := zaf hr' (.lst [])
 have FA0 := FA.sameB s0.sameB
 have rf : r ≠ a := fun e => by rw [e, FA.at'] at hr'; cases hr'
 refine ⟨_, rfl, a, rfl, ⟨_, SqL.of FA0.at'⟩, zeq (K := K) (a := a) (xs := fs.map V.str) (fun i σ H' => (∃ y5 y6 y7, σ = [some (.ref b), some (.ref a), some (.ref t), some (.int wide), some (.ref r), y5, y6, y7]) ∧ SameB b g H H' ∧ Well H' b g l (n + 4 * i) ∧ NamesAt H' b g a fs ∧ H' t = some (.tup [.int lo, .int sz]) ∧
  ∃ qs : List (Addr × WP), H' r = some (.lst (qs.map fun q => V.ref q.1)) ∧ (∀ q ∈ qs, H' q.1 = some (.tup [.str q.2.1, eV q.2.2.1, eV q.2.2.2]) ∧ leO q.2.2.1 q.2.2.2 = true) ∧ (qs.map (·.2.1)).Sublist (fs.take i)) ?_ ?_ ?_ ?_⟩
 · exact ⟨⟨none, none, none, rfl⟩, s0.sameB, (Bg.same s0).mono (by omega), FA0, s0 _ _ et, [], zad, fun q hq => by simp at hq, by simp⟩
 · rintro i σ H' _ ⟨_, _, _, F1, _⟩
   exact SqL.of F1.at'
 · rintro i x σ H1 hx ⟨⟨y5, y6, y7, rfl⟩, S1, B1, F1, t1, qs, e1, a1, u1⟩
   rw [List.getElem?_map] at hx
   cases ef : fs[i]? with
   | none => rw [ef] at hx; cases hx
   | some f' =>
    rw [ef] at hx
    obtain rfl : V.str f' = x := Option.some.inj hx
    have li : i < 6 := by have := (List.getElem?_eq_some_iff.mp ef).1; have := FA.len; omega
    refine ⟨_, rfl, b, g, l, _, 4, rfl, B1, by omega, by decide, by decide, fun c H2 c0 c1 B2 S2 => ?_⟩
    have e2 := S2 _ _ e1 rb rg
    have F2 := F1.sameB S2
    have t2 := B1.tup S2 t1
    have a2 : ∀ q ∈ qs, H2 q.1 = some (.tup [.str q.2.1, eV q.2.2.1, eV q.2.2.2]) ∧ leO q.2.2.1 q.2.2.2 = true := fun q hq => ⟨B1.tup S2 (a1 q hq).1, (a1 q hq).2⟩
    have u2 : (qs.map (·.2.1)).Sublist (fs.take (i + 1)) := u1.trans (List.take_sublist_take_left (by omega))
    refine ⟨_, _, rfl, rfl, _, rfl, ite2 (fun _ => ?_) (fun _ => ?_)⟩
    · refine ⟨_, rfl, _, rfl, _, rfl, b, g, l, t, _, lo, sz, wide, rfl, B2, by omega, t2, s1, s2, w1, w2, fun v lo' hi' H3 sp le3 B3 S3 => ?_⟩
      have e3 := S3 _ _ e2 rb rg
      have F3 := F2.sameB S3
      have t3 := B2.tup S3 t2
      have S03 := S1.trans (S2.trans S3)
      have a3 : ∀ q ∈ qs, H3 q.1 = some (.tup [.str q.2.1, eV q.2.2.1, eV q.2.2.2]) ∧ leO q.2.2.1 q.2.2.2 = true := fun q hq => ⟨B2.tup S3 (a2 q hq).1, (a2 q hq).2⟩
      refine ⟨v, _, rfl, SqT.of sp, rfl, _, _, rfl, _, _, rfl, rfl, ?_⟩
      refine ⟨_, rfl, .inl ⟨rfl, _, SqL.of e3⟩, _, rfl, _, rfl, _, rfl, zq3, fun t' ht => ?_⟩
      have st := zaf ht (.tup [V.str f', eV lo', eV hi'])
      have e4 := st _ _ e3
      refine ⟨r, _, _, rfl, rfl, e4, (by rw [List.length_map]; have := u1.length_le; simp at this; exact zav (by omega)), ?_⟩
      have tl := zcB (o := .lst (qs.map (fun q => V.ref q.1) ++ [V.ref t'])) e4
      have nr : H r = none := hr'
      refine ⟨⟨_, _, _, rfl⟩, (S03.trans st.sameB).off nr, ((B3.same st).off rb rg rl).mono (by omega), ?_, tl _ _ (st _ _ t3), qs ++ [(t', f', lo', hi')], ?_, ?_, ?_⟩
      · have F4 := F3.sameB st.sameB
        exact ⟨by rw [zak rf.symm]; exact F4.at', F4.nb, F4.ng, F4.len, F4.ok, F4.asc⟩
      · rw [zad, List.map_append]; rfl
      · intro q hq
        rcases List.mem_append.mp hq with z | z
        · exact ⟨tl _ _ (st _ _ (a3 q z).1), (a3 q z).2⟩
        · rw [List.mem_singleton.mp z]
          exact ⟨tl _ _ zad, le3⟩
      · rw [List.map_append, zar ef]
        exact u1.append (List.Sublist.refl _)
    · exact ⟨⟨_, _, _, rfl⟩, S1.trans S2, B2.mono (by omega), F2, t2, qs, e2, a2, u2⟩
 · rintro σ H1 ⟨⟨y5, y6, y7, rfl⟩, S1, B1, F1, t1, qs, e1, a1, u1⟩
   rw [show fs.take (fs.map V.str).length = fs from List.take_of_length_le (by simp)] at u1
   have ll : qs.length ≤ 6 := by have h1 := u1.length_le; have h2 := FA.len; rw [List.length_map] at h1; omega
   refine ⟨_, rfl, r, _, rfl, .inl ⟨SqL.of e1, fun t ht => ?_⟩⟩
   have st := zaf ht (.tup (qs.map fun q => V.ref q.1))
   have sub : ∀ q ∈ qs, q.2.1 ∈ fs := fun q hq => u1.subset (List.mem_map_of_mem (f := fun (x : Addr × WP) => x.2.1) hq)
   refine q t (qs.map (·.2)) _ ⟨qs, rfl, zad, fun q hq => st _ _ (a1 q hq).1⟩ ⟨by rw [List.length_map]; omega, fun p hp => ?_, ?_⟩ (fun p hp => ?_) (by rw [List.length_map]; exact ll) ((B1.same st).mono (by rw [List.length_map]; have := FA.len; omega)) (S1.trans st.sameB)
   · obtain ⟨q', hq', rfl⟩ := List.mem_map.mp hp
     exact ⟨FA.ok _ (sub q' hq'), (a1 q' hq').2⟩
   · rw [List.map_map]
     exact FA.asc.sublist u1
   · obtain ⟨q', hq', rfl⟩ := List.mem_map.mp hp
     exact sub q' hq'
theorem zef (F : Fun K "_law_wishes" "_law_wishes" zbC f fd) (G_law_take : Γ19 P w K mg base) (G_law_wish : Γ25 P w K mg base) : FnOk P w K mg base CX0 4 f fd ["well", "names", "grid", "wide", "many"] (zdn) := by
 refine F.ok sc_law_wishes (fun vs H Q E h => ?_) (fun cdv A outer s H vs Q E hr h => ?_)
 · obtain ⟨b, g, l, a, t, n, lo, sz, wide, many, fs, rfl, Bg, hn, FA, et, s1, s2, w1, w2, m0, m1, q⟩ := h
   rfl
 obtain ⟨b, g, l, a, t, n, lo, sz, wide, many, fs, rfl, Bg, hn, FA, et, s1, s2, w1, w2, m0, m1, q⟩ := h
 refine ⟨_, (zab (zao (i := 5) sc_law_wishes.nd rfl (Or.inl rfl) (zb0 zac))
  (zab (zct PassesOwn.never rfl (zcF rfl B.range_ (zaa (pv 4) zac)) (zaj (i := 6) sc_law_wishes.nd rfl (Or.inl rfl)) (zab (zao (i := 7) sc_law_wishes.nd rfl (Or.inl rfl) (zau G_law_take (hr.mono (by decide)) rfl (zaa (pv 0) (zaa zae zac))))
  (zab (zao (i := 8) sc_law_wishes.nd rfl (Or.inl rfl) (zau G_law_wish (hr.mono (by decide)) rfl (zaa (pv 0) (zaa (pv 1) (zaa (pv 2) (zaa (pv 3) zac))))))
  (zab (zaW (PW.pt (zeK (zax (zkv (zbs hr)) (pv 5) (zb0 zac) (zaA _)) (zdu (zax ziI (pv 7) zae (zaA _))))) (zab (zao (i := 9) sc_law_wishes.nd rfl (Or.inl rfl) (zaX zaJ (pv 5) (zau G_law_take (hr.mono (by decide)) rfl (zaa (pv 0) (zaa (zai zaC rfl B.len_ zbN (zaa (pv 5) zac)) zac))) (fun _ _ => rfl)))
  (zab (zao (i := 10) sc_law_wishes.nd rfl (Or.inl rfl) (zau G_law_take (hr.mono (by decide)) rfl (zaa (pv 0) (zaa (zat zaS (zai zaC rfl B.len_ zbN (zaa (pv 9) zac)) zae) zac))))
  (zah (zao (i := 8) sc_law_wishes.nd rfl (Or.inl rfl) (zcq (zax zcU (pv 7) zae (zaA _)) (pv 9) (zat zjL (zbF zg9 (pv 9) zb7 (zb6 (pv 10))) (zbF zg9 (pv 9) (zb6 (zat zaS (pv 10) zae)) zb7))))))) zas)
  (zah (zbQ (zee PySem.F.plainAttrs_list PySem.F.slot_list_append PySem.F.type_list_append zbk (pv 5) (zaa (pv 8) zac))))))))
  (zah (zap (pv 5))))), ?_⟩
 refine ⟨sz0, fun r hr' => ?_⟩
 obtain ⟨rb, rg, rl⟩ := Bg.free hr'
 have s0 := zaf hr' (.lst [])
 have e0 : (upd H r (.lst [])) r = some (.lst []) := zad
 have FA0 := FA.sameB s0.sameB
 have rf : r ≠ a := fun e => by rw [e, FA.at'] at hr'; cases hr'
 have nr : H r = none := hr'
 have B0 := Bg.same s0
 have t0 := s0 _ _ et
 generalize upd H r (.lst []) = H0 at *
 obtain ⟨N, rfl, N1⟩ : ∃ N : Nat, many = (N : Int) ∧ N ≤ 400 := ⟨many.toNat, by omega, by omega⟩
 refine ⟨_, rfl, _, rfl, by omega, by omega, zeZ (lo := 0) (n := N) (fun i σ H' => (∃ y6 y7 y8 y9 y10, σ = [some (.ref b), some (.ref a), some (.ref t), some (.int wide), some (.int (N : Int)), some (.ref r), y6, y7, y8, y9, y10]) ∧ SameB b g H H' ∧ Well H' b g l (n + 40 * i) ∧ NamesAt H' b g a fs ∧ H' t = some (.tup [.int lo, .int sz]) ∧
  ∃ ws : List (Addr × List WP), H' r = some (.lst (ws.map fun x => V.ref x.1)) ∧ ws.length = i ∧ ∀ x ∈ ws, WishAt H' x.1 x.2 ∧ WOk x.2 ∧ inF fs x.2 ∧ x.2.length ≤ 6) ?_ ?_ ?_⟩
 · exact ⟨⟨none, none, none, none, none, rfl⟩, s0.sameB, B0.mono (by omega), FA0, t0, [], e0, rfl, fun x hx => by simp at hx⟩
 · rintro i σ H1 hi ⟨⟨y6, y7, y8, y9, y10, rfl⟩, S1, B1, F1, t1, ws, e1, lw, g1⟩
   refine ⟨_, rfl, b, g, l, _, 6, rfl, B1, by omega, by decide, by decide, fun pick H2 p0 p1 B2 S2 => ?_⟩
   refine ⟨_, rfl, _, rfl, _, rfl, _, rfl, b, g, l, a, t, _, lo, sz, wide, fs, rfl, B2, by omega, F1.sameB S2, B1.tup S2 t1, s1, s2, w1, w2, fun wr w H3 W3 ok3 in3 len3 B3 S3 => ?_⟩
   have S13 := S2.trans S3
   have e3 := S13 _ _ e1 rb rg
   have F3 := F1.sameB S13
   have t3 := B2.tup S3 (B1.tup S2 t1)
   have g3 : ∀ x ∈ ws, WishAt H3 x.1 x.2 ∧ WOk x.2 ∧ inF fs x.2 ∧ x.2.length ≤ 6 := fun x hx => ⟨((g1 x hx).1.sameW B1 S2).sameW B2 S3, (g1 x hx).2⟩
   refine zbj ?_
   dsimp only
   refine zbB (fun σ' H' => ∃ (wr : Addr) (w : List WP) (y9 y10 : Option V), σ' = [some (.ref b), some (.ref a), some (.ref t), some (.int wide), some (.int (N : Int)), some (.ref r), some (.int (0 + (i : Int))), some (.int pick), some (.ref wr), y9, y10] ∧ WishAt H' wr w ∧ WOk w ∧ inF fs w ∧ w.length ≤ 6 ∧ SameB b g H3 H' ∧ Well H' b g l (n + 40 * i + 35)) (fun Z hZ => ?_) ?_
   · refine ⟨_, rfl, sz0, fun ep hep => ?_⟩
     have s4 := zaf hep (.lst [])
     have e4 := s4 _ _ e3
     have g4 : ∀ x ∈ ws, WishAt (upd H3 ep (.lst [])) x.1 x.2 ∧ WOk x.2 ∧ inF fs x.2 ∧ x.2.length ≤ 6 := fun x hx => ⟨(g3 x hx).1.same s4, (g3 x hx).2⟩
     have B4 := B3.same s4
     have W4 := W3.same s4
     have h4 : (upd H3 ep (.lst [])) ep = some (.lst []) := zad
     generalize upd H3 ep (.lst []) = H4 at *
     have nope : Z [some (.ref b), some (.ref a), some (.ref t), some (.int wide), some (.int (N : Int)), some (.ref r), some (.int (0 + (i : Int))), some (.int pick), some (.ref wr), y9, y10] H4 := hZ _ _ ⟨wr, w, y9, y10, rfl, W4, ok3, in3, len3, s4.sameB, B4.mono (by omega)⟩
     refine ⟨r, ep, _, rfl, rfl, e4, h4, _, rfl, ?_⟩
     by_cases hw : ws = []
     · subst hw
       exact iteF (iteF nope)
     · have wpos : 0 < ws.length := List.length_pos_iff.mpr hw
       have ne : (ws.map fun x => V.ref x.1).isEmpty = false := by
        cases ws with
        | nil => exact absurd rfl hw
        | cons x0 r0 => rfl
       rw [ne]
       refine iteT ⟨_, rfl, _, _, rfl, rfl, _, rfl, ite2 (fun _ => ?_) (fun _ => nope)⟩
       refine ⟨_, rfl, _, rfl, _, rfl, r, _, rfl, .inl (SqL.of e4), b, g, l, _, _, rfl, B4, by omega, by rw [List.length_map]; omega, zeT (by rw [List.length_map]; omega), fun k H5 k0 k1 B5 S5 => ?_⟩
       have e5 := S5 _ _ e4 rb rg
       rw [List.length_map] at k1
       obtain ⟨j, rfl⟩ : ∃ j : Nat, k = (j : Int) := ⟨k.toNat, by omega⟩
       obtain ⟨X1, eX⟩ : ∃ X1, ws[j]? = some X1 := ⟨ws[j]'(by omega), List.getElem?_eq_getElem (by omega)⟩
       have hX : atI (ws.map fun x => V.ref x.1) (j : Int) = some (V.ref X1.1) := zbX (by rw [List.getElem?_map, eX]; rfl)
       obtain ⟨x1, x2, x3, x4⟩ := g4 X1 (List.mem_of_getElem? eX)
       have x5 := x1.sameW B4 S5
       refine ⟨r, _, _, _, rfl, rfl, SqL.of e5, hX, ?_⟩
       obtain ⟨xs1, ex1, lx1⟩ := x5.tyN
       refine ⟨_, rfl, _, rfl, X1.1, _, rfl, .inr (SqT.of ex1), _, _, rfl, rfl, b, g, l, _, _, rfl, B5, by omega, by omega, zeT (by omega), fun at' H6 a0 a1 B6 S6 => ?_⟩
       have x6 := x5.sameW B5 S6
       have S36 := s4.sameB.trans (S5.trans S6)
       refine ⟨_, rfl, rfl, _, rfl, ite2 (fun _ => ⟨_, rfl, hZ _ _ ⟨X1.1, X1.2, _, _, rfl, x6, x2, x3, x4, S36, B6.mono (by omega)⟩⟩) (fun _ => ?_)⟩
       obtain ⟨k', rfl⟩ : ∃ k' : Nat, at' = (k' : Int) := ⟨at'.toNat, by omega⟩
       obtain ⟨ps, hps, hA, hP⟩ := x6
       have lps : ps.length ≤ 6 := by rw [← hps, List.length_map] at x4; exact x4
       refine ⟨_, rfl, _, rfl, _, rfl, X1.1, _, rfl, hA, fun p1 H12 s12 e12 => ?_⟩
       rw [zh7 rfl, ← List.map_take] at e12
       refine ⟨_, rfl, _, rfl, _, _, rfl, rfl, _, rfl, X1.1, _, rfl, s12 _ _ hA, fun p2 H13 s13 e13 => ?_⟩
       rw [zh8 (n := k' + 1) (by omega), ← List.map_drop] at e13
       refine ⟨p1, p2, _, _, rfl, rfl, s13 _ _ e12, e13, (by rw [List.length_map, List.length_take, List.length_map, List.length_drop]; exact zkg (by omega)), fun r2 H14 s14 e14 => ?_⟩
       rw [← List.map_append] at e14
       have tt := s12.trans (s13.trans s14)
       have sub : (ps.take k' ++ ps.drop (k' + 1)).Sublist ps := by
        rw [← List.eraseIdx_eq_take_drop_succ]
        exact List.eraseIdx_sublist ..
       have subw : ((ps.take k' ++ ps.drop (k' + 1)).map (·.2)).Sublist X1.2 := by rw [← hps]; exact sub.map _
       refine hZ _ _ ⟨r2, (ps.take k' ++ ps.drop (k' + 1)).map (·.2), _, _, rfl, ⟨_, rfl, e14, fun x hx => tt _ _ (hP x (sub.subset hx))⟩, ⟨Nat.le_trans subw.length_le x2.len, fun p hp => x2.ok p (subw.subset hp), x2.asc.sublist (subw.map _)⟩, fun p hp => x3 p (subw.subset hp), Nat.le_trans subw.length_le x4, S36.trans tt.sameB, (B6.same tt).mono (by omega)⟩
   rintro σ' H5 ⟨wr, w, y9, y10, rfl, W5, ok5, in5, len5, S5, B5⟩
   have e5 := S5 _ _ e3 rb rg
   have F5 := F3.sameB S5
   refine ⟨_, rfl, .inl ⟨rfl, _, SqL.of e5⟩, _, rfl, r, _, _, rfl, rfl, e5, (by rw [List.length_map]; exact zav (by omega)), ?_⟩
   have tl := zcB (o := .lst (ws.map (fun q => V.ref q.1) ++ [V.ref wr])) e5
   refine ⟨⟨_, _, _, _, _, rfl⟩, ((S1.trans S13).trans S5).off nr, (B5.off rb rg rl).mono (by omega), ⟨by rw [zak rf.symm]; exact F5.at', F5.nb, F5.ng, F5.len, F5.ok, F5.asc⟩, tl _ _ (B3.tup S5 t3), ws ++ [(wr, w)], by rw [zad, List.map_append]; rfl, by rw [List.length_append, lw]; rfl, fun x hx => ?_⟩
   rcases List.mem_append.mp hx with z | z
   · exact ⟨((g3 x z).1.sameW B3 S5).keep tl, (g3 x z).2⟩
   · rw [List.mem_singleton.mp z]
     exact ⟨W5.keep tl, ok5, in5, len5⟩
 · rintro σ H1 ⟨⟨y6, y7, y8, y9, y10, rfl⟩, S1, B1, F1, t1, ws, e1, lw, g1⟩
   exact ⟨_, rfl, q r ws _ nr ⟨e1, fun x hx => ⟨(g1 x hx).1, (g1 x hx).2.1⟩, by omega⟩ (by omega) (fun x hx => (g1 x hx).2.2) (B1.mono (by omega)) S1⟩
theorem zfA (F : Fun K "_law_part" "_law_part" zci f fd)  : FnOk P w K mg base CX0 1 f fd ["wish", "field"] (zg2) := by
 refine F.ok sc_law_part (fun vs H Q E h => ?_) (fun cdv A outer s H vs Q E hr h => ?_)
 · obtain ⟨a, w', f', rfl, hw, wok, q⟩ := h
   rfl
 obtain ⟨a, w', f', rfl, hw, wok, q⟩ := h
 refine ⟨_, (zab (zct PassesOwn.never rfl (zdw (pv 0)) (zcu rfl (zaq (zaj (i := 2) sc_law_part.nd rfl (Or.inl rfl)) (zaq (zaj (i := 3) sc_law_part.nd rfl (Or.inl rfl)) (zaq (zaj (i := 4) sc_law_part.nd rfl (Or.inl rfl)) zbm)))) (zah (zaW (zax zcU (pv 2) (pv 1) (zaA _)) (zah (zap (za9 (zaa (pv 3) (zaa (pv 4) zac))))) zas)))
  (zah (zap zeN))), ?_⟩
 obtain ⟨ps, rfl, hA, hP⟩ := hw
 refine ⟨_, rfl, a, rfl, ⟨_, SqT.of hA⟩, zep (K := K) (a := a) (xs := ps.map fun p => V.ref p.1) (fun i σ H' => (∃ y2 y3 y4, σ = [some (.ref a), some (.str f'), y2, y3, y4]) ∧ Same H H' ∧ ∀ p ∈ (ps.map (·.2)).take i, p.1 ≠ f') ⟨⟨none, none, none, rfl⟩, Same.refl _, fun p hp => by simp at hp⟩ (fun i σ H' _ ⟨_, s, _⟩ => s.seqT (SqT.of hA)) ?_ ?_⟩
 · rintro i x σ H' hx ⟨⟨y2, y3, y4, rfl⟩, s, hr'⟩
   rw [List.getElem?_map] at hx
   cases e1 : ps[i]? with
   | none => rw [e1] at hx; cases hx
   | some P1 =>
    rw [e1] at hx
    obtain rfl : V.ref P1.1 = x := Option.some.inj hx
    have hm := List.mem_of_getElem? e1
    have ew : (ps.map (·.2))[i]? = some P1.2 := by rw [List.getElem?_map, e1]; rfl
    refine ⟨P1.1, _, rfl, SqT.of (s _ _ (hP P1 hm)), rfl, _, _, rfl, _, _, rfl, _, _, rfl, rfl, ?_⟩
    refine ⟨_, rfl, _, rfl, rfl, _, rfl, ite2 (fun e => ?_) (fun e => ?_)⟩
    · have e : P1.2.1 = f' := by
       have := of_decide_eq_true e
       injection this
      refine ⟨_, rfl, _, rfl, zq2, fun u hu => ?_⟩
      have su := zaf hu (.tup [eV P1.2.2.1, eV P1.2.2.2])
      refine q _ _ (s.trans su) ?_
      rw [zgX ew e hr']
      exact ⟨u, rfl, zad⟩
    · refine ⟨⟨_, _, _, rfl⟩, s, fun p hp => ?_⟩
      rw [zar ew] at hp
      rcases List.mem_append.mp hp with z | z
      · exact hr' p z
      · rw [List.mem_singleton.mp z]
        exact fun z => e (decide_eq_true (by rw [z]))
 · rintro σ H' ⟨_, s, hr'⟩
   rw [List.length_map, List.take_of_length_le (by simp)] at hr'
   refine q _ _ s ?_
   rw [zdm hr']
theorem zeh (F : Fun K "_law_covers" "_law_covers" zbE f fd) (G_law_part : Γ27 P w K mg base) : FnOk P w K mg base CX0 2 f fd ["one", "other"] (zg4) := by
 refine F.ok sc_law_covers (fun vs H Q E h => ?_) (fun cdv A outer s H vs Q E hr h => ?_)
 · obtain ⟨a, b, w1, w2, rfl, hw1, hw2, ok1, ok2, q⟩ := h
   rfl
 obtain ⟨a, b, w1, w2, rfl, hw1, hw2, ok1, ok2, q⟩ := h
 refine ⟨_, (zab (zct PassesOwn.never rfl (zdw (pv 0)) (zcu rfl (zaq (zaj (i := 2) sc_law_covers.nd rfl (Or.inl rfl)) (zaq (zaj (i := 3) sc_law_covers.nd rfl (Or.inl rfl)) (zaq (zaj (i := 4) sc_law_covers.nd rfl (Or.inl rfl)) zbm)))) (zab (zao (i := 5) sc_law_covers.nd rfl (Or.inl rfl) (zau G_law_part (hr.mono (by decide)) rfl (zaa (pv 1) (zaa (pv 2) zac))))
  (zab (zaW (zbZ (zbi (pv 5))) (zah (zap zb3)) zas)
  (zab (zaW (PW.pt (zeK (zbZ (zdx (pv 3))) (zdu (PW.pt (zdf (zbZ (zbi (zaX zcJ (pv 5) zae (fun _ _ => rfl)))) (zbY (zax ziI (zaX zcJ (pv 5) zae (fun _ _ => rfl)) (pv 3) (zaA _)))))))) (zah (zap zb3)) zas)
  (zah (zaW (PW.pt (zeK (zbZ (zdx (pv 4))) (zdu (PW.pt (zdf (zbZ (zbi (zaX zcJ (pv 5) zae (fun _ _ => rfl)))) (zbY (zax zkw (zaX zcJ (pv 5) zae (fun _ _ => rfl)) (pv 4) (zaA _)))))))) (zah (zap zb3)) zas))))))
  (zah (zap zb3))), ?_⟩
 obtain ⟨ps, rfl, hA, hP⟩ := hw1
 refine ⟨_, rfl, a, rfl, ⟨_, SqT.of hA⟩, zep (K := K) (a := a) (xs := ps.map fun p => V.ref p.1) (fun i σ H' => (∃ y2 y3 y4 y5, σ = [some (.ref a), some (.ref b), y2, y3, y4, y5]) ∧ Same H H' ∧ zaG ((ps.map (·.2)).take i) w2 = true) ⟨⟨none, none, none, none, rfl⟩, Same.refl _, rfl⟩ (fun i σ H' _ ⟨_, s, _⟩ => s.seqT (SqT.of hA)) ?_ ?_⟩
 · rintro i x σ H' hx ⟨⟨y2, y3, y4, y5, rfl⟩, s, hr'⟩
   rw [List.getElem?_map] at hx
   cases e1 : ps[i]? with
   | none => rw [e1] at hx; cases hx
   | some P1 =>
    rw [e1] at hx
    obtain rfl : V.ref P1.1 = x := Option.some.inj hx
    have hm := List.mem_of_getElem? e1
    have ew : (ps.map (·.2))[i]? = some P1.2 := by rw [List.getElem?_map, e1]; rfl
    refine ⟨P1.1, _, rfl, SqT.of (s _ _ (hP P1 hm)), rfl, _, _, rfl, _, _, rfl, _, _, rfl, rfl, ?_⟩
    have out : zc5 w2 P1.2 = false → ∀ H2, Same H H2 → Q (.bl false) H2 := fun h H2 s2 => by
     have : zaG (ps.map (·.2)) w2 = false := by
      unfold zaG
      rw [List.all_eq_false]
      exact ⟨P1.2, List.mem_map_of_mem hm, by rw [h]; exact Bool.false_ne_true⟩
     rw [this] at q
     exact q _ s2
    have good : zc5 w2 P1.2 = true → zaG ((ps.map (·.2)).take (i + 1)) w2 = true := fun h => by
     rw [zar ew]
     unfold zaG at *
     rw [List.all_append, hr', Bool.true_and, List.all_cons, List.all_nil, h]
     rfl
    refine ⟨_, rfl, _, rfl, b, w2, P1.2.1, rfl, hw2.same s, ok2, fun v H2 s2 hv => ?_⟩
    have t2 := s.trans s2
    cases hs : za6 w2 P1.2.1 with
    | none =>
     rw [hs] at hv
     obtain rfl : v = .non := hv
     exact ⟨_, rfl, _, rfl, iteT (out (zdt hs) _ t2)⟩
    | some sp =>
     rw [hs] at hv
     obtain ⟨t, rfl, et⟩ := hv
     refine ⟨_, rfl, _, rfl, iteF ?_⟩
     have rp := zcy hs
     obtain ⟨lo2, hi2⟩ := sp
     obtain ⟨pa, f', lo, hi⟩ := P1
     unfold zkc
     dsimp only at *
     refine zbB (fun σ' H' => σ' = [some (.ref a), some (.ref b), some (.str f'), some (eV lo), some (eV hi), some (.ref t)] ∧ H' = H2 ∧ zet lo lo2 = true) (fun Z hZ => ?_) ?_
     · have nx : zet lo lo2 = true → Z [some (.ref a), some (.ref b), some (.str f'), some (eV lo), some (eV hi), some (.ref t)] H2 := fun h => hZ _ _ ⟨rfl, rfl, h⟩
       cases lo with
       | none => exact ⟨_, rfl, _, rfl, iteF (iteF (nx rfl))⟩
       | some l =>
        cases lo2 with
        | none => exact ⟨_, rfl, _, rfl, iteT ⟨_, rfl, t, _, 0, _, rfl, rfl, SqT.of et, rfl, _, rfl, iteT (iteT (out (rp.trans (by simp [zb5, zet, upB])) _ t2))⟩⟩
        | some o =>
         refine ⟨_, rfl, _, rfl, iteT ⟨_, rfl, t, _, 0, _, rfl, rfl, SqT.of et, rfl, _, rfl, iteF ⟨_, rfl, t, _, 0, _, rfl, rfl, SqT.of et, rfl, _, rfl, _, _, rfl, rfl, _, rfl, ite2 (fun h => ?_) (fun h => ?_)⟩⟩⟩
         · have h := of_decide_eq_true h
           exact out (rp.trans (by simp [zb5, zet, upB]; omega)) _ t2
         · have h := of_decide_eq_false (Bool.eq_false_iff.mpr h)
           exact nx (decide_eq_true (by omega))
     · rintro σ' H4 ⟨rfl, e4, hd⟩
       rw [e4]
       clear e4 H4
       have nx : upB hi hi2 = true → (∃ y2 y3 y4 y5, [some (V.ref a), some (.ref b), some (.str f'), some (eV lo), some (eV hi), some (.ref t)] = [some (V.ref a), some (.ref b), y2, y3, y4, y5]) ∧ Same H H2 ∧ zaG ((ps.map (·.2)).take (i + 1)) w2 = true := fun h => ⟨⟨_, _, _, _, rfl⟩, t2, good (rp.trans (by unfold zb5; rw [hd, h]; rfl))⟩
       cases hi with
       | none => exact ⟨_, rfl, _, rfl, iteF (iteF (nx rfl))⟩
       | some l =>
        cases hi2 with
        | none => exact ⟨_, rfl, _, rfl, iteT ⟨_, rfl, t, _, 1, _, rfl, rfl, SqT.of et, rfl, _, rfl, iteT (iteT (out (rp.trans (by simp [zb5, zet, upB])) _ t2))⟩⟩
        | some o =>
         refine ⟨_, rfl, _, rfl, iteT ⟨_, rfl, t, _, 1, _, rfl, rfl, SqT.of et, rfl, _, rfl, iteF ⟨_, rfl, t, _, 1, _, rfl, rfl, SqT.of et, rfl, _, rfl, _, _, rfl, rfl, _, rfl, ite2 (fun h => ?_) (fun h => ?_)⟩⟩⟩
         · have h := of_decide_eq_true h
           exact out (rp.trans (by simp [zb5, zet, upB]; omega)) _ t2
         · have h := of_decide_eq_false (Bool.eq_false_iff.mpr h)
           exact nx (decide_eq_true (by omega))
 · rintro σ H' ⟨_, s, hr'⟩
   rw [List.length_map, List.take_of_length_le (by simp)] at hr'
   rw [hr'] at q
   exact q _ s
theorem zfz (F : Fun K "_law_rank" "_law_rank" zch f fd)  : FnOk P w K mg base CX0 1 f fd ["wish"] (zfk K) := by
 refine F.ok sc_law_rank (fun vs H Q E h => ?_) (fun cdv A outer s H vs Q E hr h => ?_)
 · obtain ⟨a, w', rfl, hw, wok, q⟩ := h
   rfl
 obtain ⟨a, w', rfl, hw, wok, q⟩ := h
 refine ⟨_, (zab (zao (i := 1) sc_law_rank.nd rfl (Or.inl rfl) (zb0 zac))
  (zab (zct PassesOwn.never rfl (zdw (pv 0)) (zcu rfl (zaq (zaj (i := 2) sc_law_rank.nd rfl (Or.inl rfl)) (zaq (zaj (i := 3) sc_law_rank.nd rfl (Or.inl rfl)) (zaq (zaj (i := 4) sc_law_rank.nd rfl (Or.inl rfl)) zbm)))) (zah (zbQ (zee PySem.F.plainAttrs_list PySem.F.slot_list_append PySem.F.type_list_append zbk (pv 1) (zaa (za9 (zaa (pv 2) (zaa (zb9 (zdx (pv 3))) (zaa (zcq (zbZ (zbi (pv 3))) zae (pv 3)) (zaa (zb9 (zbi (pv 4))) (zaa (zcq (zbZ (zbi (pv 4))) zae (pv 4)) zac)))))) zac)))))
  (zah (zap (zcG zcM rfl B.tuple_ zbW (zaa (pv 1) zac)))))), ?_⟩
 obtain ⟨ps, rfl, hA, hP⟩ := hw
 refine ⟨sz0, fun r hr' => ?_⟩
 have s0 := zaf hr' (.lst [])
 refine ⟨_, rfl, a, rfl, ⟨_, SqT.of (s0 _ _ hA)⟩, zep (K := K) (a := a) (xs := ps.map fun p => V.ref p.1) (fun i σ H' => (∃ y2 y3 y4, σ = [some (.ref a), some (.ref r), y2, y3, y4]) ∧ Same H H' ∧ ∃ qs : List (Addr × WP), H' r = some (.lst (qs.map fun q => V.ref q.1)) ∧ qs.map (·.2) = (ps.map (·.2)).take i ∧ ∀ q ∈ qs, H' q.1 = some (.tup (lrV q.2))) ⟨⟨none, none, none, rfl⟩, s0, [], zad, rfl, fun q hq => by simp at hq⟩ (fun i σ H' _ ⟨_, s, _⟩ => s.seqT (SqT.of hA)) ?_ ?_⟩
 · rintro i x σ H' hx ⟨⟨y2, y3, y4, rfl⟩, s, qs, ev, rv, aq⟩
   rw [List.getElem?_map] at hx
   cases e1 : ps[i]? with
   | none => rw [e1] at hx; cases hx
   | some P1 =>
    rw [e1] at hx
    obtain rfl : V.ref P1.1 = x := Option.some.inj hx
    have hm := List.mem_of_getElem? e1
    have ew : (ps.map (·.2))[i]? = some P1.2 := by rw [List.getElem?_map, e1]; rfl
    refine ⟨P1.1, _, rfl, SqT.of (s _ _ (hP P1 hm)), rfl, _, _, rfl, _, _, rfl, _, _, rfl, rfl, ?_⟩
    have lv : (qs.map fun q => V.ref q.1).length < sizeLine := by
     have h1 := congrArg List.length rv
     rw [List.length_map, List.length_take] at h1
     rw [List.length_map]
     have h2 := wok.len
     exact zav (by omega)
    obtain ⟨pa, f', lo, hi⟩ := P1
    dsimp only at *
    have fin : ∀ u, H' u = none → zhi (V.ref r) [V.ref u] (upd H' u (.tup (lrV (f', lo, hi)))) fun x H1 => (∃ y2 y3 y4, [some (V.ref a), some (V.ref r), some (.str f'), some (eV lo), some (eV hi)] = [some (V.ref a), some (V.ref r), y2, y3, y4]) ∧ Same H H1 ∧ ∃ qs : List (Addr × WP), H1 r = some (.lst (qs.map fun q => V.ref q.1)) ∧ qs.map (·.2) = (ps.map (·.2)).take (i + 1) ∧ ∀ q ∈ qs, H1 q.1 = some (.tup (lrV q.2)) := fun u hu => by
     have su := zaf hu (.tup (lrV (f', lo, hi)))
     have eu : (upd H' u (.tup (lrV (f', lo, hi)))) u = some (.tup (lrV (f', lo, hi))) := zad
     generalize upd H' u (.tup (lrV (f', lo, hi))) = H2 at *
     have tl := zcB (o := .lst (qs.map (fun q => V.ref q.1) ++ [V.ref u])) (su _ _ ev)
     refine ⟨r, _, _, rfl, rfl, su _ _ ev, lv, ⟨_, _, _, rfl⟩, za5 (s.trans su) hr', qs ++ [(u, f', lo, hi)], by rw [zad, List.map_append]; rfl, by rw [List.map_append, rv, zar ew]; rfl, fun q hq => ?_⟩
     rcases List.mem_append.mp hq with z | z
     · exact tl _ _ (su _ _ (aq q z))
     · rw [List.mem_singleton.mp z]
       exact tl _ _ eu
    refine ⟨_, rfl, .inl ⟨rfl, _, SqL.of ev⟩, ?_⟩
    cases lo with
    | none =>
     cases hi with
     | none => exact ⟨_, rfl, _, rfl, _, rfl, _, rfl, iteT ⟨_, rfl, _, rfl, _, rfl, iteT ⟨(by show 5 ≤ sizeLine; decide), fun u hu => fin u hu⟩⟩⟩
     | some h => exact ⟨_, rfl, _, rfl, _, rfl, _, rfl, iteT ⟨_, rfl, _, rfl, _, rfl, iteF ⟨_, rfl, (by show 5 ≤ sizeLine; decide), fun u hu => fin u hu⟩⟩⟩
    | some l =>
     cases hi with
     | none => exact ⟨_, rfl, _, rfl, _, rfl, _, rfl, iteF ⟨_, rfl, _, rfl, _, rfl, _, rfl, iteT ⟨(by show 5 ≤ sizeLine; decide), fun u hu => fin u hu⟩⟩⟩
     | some h => exact ⟨_, rfl, _, rfl, _, rfl, _, rfl, iteF ⟨_, rfl, _, rfl, _, rfl, _, rfl, iteF ⟨_, rfl, (by show 5 ≤ sizeLine; decide), fun u hu => fin u hu⟩⟩⟩
 · rintro σ H' ⟨⟨y2, y3, y4, rfl⟩, s, qs, ev, rv, aq⟩
   rw [List.length_map, List.take_of_length_le (by simp)] at rv
   refine ⟨_, rfl, r, _, rfl, .inl ⟨SqL.of ev, fun t ht => ?_⟩⟩
   have st := zaf ht (.tup (qs.map fun q => V.ref q.1))
   refine q _ _ (s.trans st) ?_
   unfold lrD
   rw [Rep, ← rv]
   exact ⟨t, _, rfl, SqT.of zad, zhe qs fun x hx => st _ _ (aq x hx)⟩
theorem zdB (F : Fun K "_law_greatest" "_law_greatest" zaH f fd) (G_law_rank : Γ29 P w K mg base) (G_law_covers : Γ28 P w K mg base) : FnOk P w K mg base CX0 4 f fd ["wishes"] (zgv) := by
 refine F.ok sc_law_greatest (fun vs H Q E h => ?_) (fun cdv A outer s H vs Q E hr h => ?_)
 · obtain ⟨l, ws, rfl, hw, q⟩ := h
   rfl
 obtain ⟨l, ws, rfl, hw, q⟩ := h
 refine ⟨_, (zab (zao (i := 1) sc_law_greatest.nd rfl (Or.inr rfl) (zb0 zac))
  (zab (zct PassesOwn.never rfl (zbR (pv 0)) (zaj (i := 2) sc_law_greatest.nd rfl (Or.inl rfl)) (zah (zaW (zax (zhu (zbs hr)) (pv 2) (pv 1) (by with_unfolding_all rfl)) (zah (zbQ (zee PySem.F.plainAttrs_list PySem.F.slot_list_append PySem.F.type_list_append zbk (pv 1) (zaa (pv 2) zac)))) zas)))
  (zab (zec (N' := ["wish", "some"]) (js := [none, some 1]) (i := 3) sc_law_greatest.nd rfl (Or.inl rfl) rfl (zcL (N := ["wishes", "some", "wish", "top"]) (outer := zag zaH) (by decide +kernel)) (zbR (pv 1)) (fun _ _ _ _ _ => (zaj (i := 0) (show List.Nodup (["wish", "some"] : List Str) by decide +kernel) rfl (Or.inr rfl))) (fun _ _ _ _ _ => zcE (zax (zky (zbs hr)) (zed (N' := ["one", "wish"]) (js := [none, some 0]) rfl (zcL (N := ["wish", "some"]) (outer := relS (zag zaH) (zkV zaH 2)) (by decide +kernel)) (ziE K rfl (pv 1)) (fun _ _ _ _ _ => (zaj (i := 0) (show List.Nodup (["one", "wish"] : List Str) by decide +kernel) rfl (Or.inl rfl))) (fun _ _ _ _ _ => zcE (PW.pt (zeK (zax (zjK K rfl (zbs hr)) (pv 0) (pv 1) (zaA _)) (zdu (zba (zau G_law_covers (hr.mono (by decide)) rfl (zaa (pv 0) (zaa (pv 1) zac)))))))) (fun _ _ _ _ _ => (pv 0))) (zb0 zac) (zaA _))) (fun _ _ _ _ _ => (pv 0)))
  (zah (zap (zeM G_law_rank (hr.mono (by decide)) rfl B.sorted_ rfl (zaa (pv 3) zac))))))), ?_⟩
 have hA := hw.at'
 refine ⟨sz0, fun sr hsr => ?_⟩
 have s0 := zaf hsr (.lst [])
 have sl : sr ≠ l := fun e => by rw [e, hA] at hsr; cases hsr
 refine ⟨_, rfl, l, rfl, ⟨_, SqL.of (s0 _ _ hA)⟩, zeq (K := K) (a := l) (xs := ws.map fun x => V.ref x.1) (fun i σ H' => (∃ y2 y3, σ = [some (.ref l), some (.ref sr), y2, y3]) ∧ Same H H' ∧ ∃ ks, Dd (ws.take i) ks ∧ H' sr = some (.lst (ks.map fun x => V.ref x.1))) ⟨⟨none, none, rfl⟩, s0, [], Dd.nil, zad⟩ (fun i σ H' _ ⟨_, s, _⟩ => SqL.of (s _ _ hA)) ?_ ?_⟩
 · rintro i x σ H1 hx ⟨⟨y2, y3, rfl⟩, s1, ks, dd, e1⟩
   rw [List.getElem?_map] at hx
   cases ew : ws[i]? with
   | none => rw [ew] at hx; cases hx
   | some X1 =>
    rw [ew] at hx
    obtain rfl : V.ref X1.1 = x := Option.some.inj hx
    have x1 := ((hw.ok X1 (List.mem_of_getElem? ew)).1).same s1
    have wk : ∀ k ∈ ks, WishAt H1 k.1 k.2 := fun k hk => ((hw.ok k (List.mem_of_mem_take (dd.sub k hk))).1).same s1
    have dn := dd.put X1
    rw [← zar ew] at dn
    unfold putW at dn
    refine ⟨_, rfl, _, rfl, sr, ks.map fun k => (k.1, dW k.2), dW X1.2, rfl, SqL.of (by rw [List.map_map]; exact e1), fun p hp => ?_, zgx x1, ?_⟩
    · obtain ⟨k, hk, rfl⟩ := List.mem_map.mp hp
      exact ⟨zgx (wk k hk), Nat.le_trans (zfY _) (by decide)⟩
    · have ea : ((ks.map fun k => (k.1, dW k.2)).any fun p => pyEq p.2 (dW X1.2)) = ks.any fun k => decide (k.2 = X1.2) := by
       rw [List.any_map]
       exact congrArg (fun f => ks.any f) (funext fun k => zhm k.2 X1.2)
      rw [ea]
      cases c : ks.any fun k => decide (k.2 = X1.2) with
      | true =>
       rw [if_pos c] at dn
       exact ⟨_, rfl, iteF ⟨⟨_, _, rfl⟩, s1, ks, dn, e1⟩⟩
      | false =>
       rw [if_neg (by rw [c]; exact Bool.false_ne_true)] at dn
       refine ⟨_, rfl, iteT ⟨_, rfl, .inl ⟨rfl, _, SqL.of e1⟩, _, rfl, sr, _, _, rfl, rfl, e1, ?_, ?_⟩⟩
       · rw [List.length_map]
         have h1 := dd.len
         have h2 := hw.len
         rw [List.length_take] at h1
         exact zav (by omega)
       · exact ⟨⟨_, _, rfl⟩, za5 s1 hsr, ks ++ [(X1.1, X1.2)], dn, by rw [zad, List.map_append]; rfl⟩
 · rintro σ H1 ⟨⟨y2, y3, rfl⟩, s1, ks, dd, e1⟩
   rw [List.length_map, List.take_length] at dd
   have wk : ∀ k ∈ ks, WishAt H1 k.1 k.2 ∧ WOk k.2 := fun k hk => ⟨((hw.ok k (dd.sub k hk)).1).same s1, (hw.ok k (dd.sub k hk)).2⟩
   have lk : ks.length ≤ 800 := Nat.le_trans dd.len hw.len
   refine ⟨_, rfl, sr, rfl, ⟨_, SqL.of e1⟩, fun tp htp => ?_⟩
   have sp := zaf htp (.lst [])
   refine zeo (xs := ks.map fun x => V.ref x.1) (fun i σ' ys H' => (∃ v, σ' = [v, some (.ref sr)]) ∧ Same H1 H' ∧ H' tp = some (.lst ys) ∧ ys = ((ks.take i).filter fun k => zaT ks k.2).map fun x => V.ref x.1) ⟨⟨none, rfl⟩, sp, zad, rfl⟩ ?_ ?_ ?_
   · rintro i σ' ys H' hi ⟨_, s, h1, h2⟩
     refine ⟨s.seq (SqL.of e1), h1, ?_⟩
     rw [h2, List.length_map]
     have h3 := List.length_filter_le (fun k => zaT ks k.2) (ks.take i)
     rw [List.length_take] at h3
     exact zav (by omega)
   · rintro i x σ' ys H2 N hx ⟨⟨v, rfl⟩, s2, h1, h2⟩ hN
     rw [List.getElem?_map] at hx
     cases ew : ks[i]? with
     | none => rw [ew] at hx; cases hx
     | some X1 =>
      rw [ew] at hx
      obtain rfl : V.ref X1.1 = x := Option.some.inj hx
      obtain ⟨x1, x2⟩ := wk X1 (List.mem_of_getElem? ew)
      refine ⟨_, rfl, sr, rfl, ⟨_, SqL.of (s2 _ _ e1)⟩, fun ip hip => ?_⟩
      refine zeo (xs := ks.map fun x => V.ref x.1) (fun j σ' zs H' => (∃ v, σ' = [v, some (.ref X1.1)]) ∧ Same H2 H' ∧ H' ip = some (.lst zs) ∧ zs = ((ks.take j).filter fun k => !decide (k.2 = X1.2) && zaG k.2 X1.2).map fun x => V.ref x.1) ⟨⟨none, rfl⟩, zaf hip _, zad, rfl⟩ ?_ ?_ ?_
      · rintro j σ' zs H' hj ⟨_, s, g1, g2⟩
        refine ⟨s.seq (SqL.of (s2 _ _ e1)), g1, ?_⟩
        rw [g2, List.length_map]
        have h3 := List.length_filter_le (fun k : Addr × List WP => !decide (k.2 = X1.2) && zaG k.2 X1.2) (ks.take j)
        rw [List.length_take] at h3
        exact zav (by omega)
      · rintro j x σ' zs H3 N3 hx ⟨⟨v, rfl⟩, s3, g1, g2⟩ hN3
        rw [List.getElem?_map] at hx
        cases eo : ks[j]? with
        | none => rw [eo] at hx; cases hx
        | some O1 =>
         rw [eo] at hx
         obtain rfl : V.ref O1.1 = x := Option.some.inj hx
         obtain ⟨o1, o2⟩ := wk O1 (List.mem_of_getElem? eo)
         have st : ((ks.take (j + 1)).filter fun k => !decide (k.2 = X1.2) && zaG k.2 X1.2) = (ks.take j).filter (fun k => !decide (k.2 = X1.2) && zaG k.2 X1.2) ++ (if (!decide (O1.2 = X1.2) && zaG O1.2 X1.2) = true then [O1] else []) := by
          rw [zar eo, List.filter_append]
          congr 1
          rw [List.filter_cons]
          rfl
         refine ⟨_, rfl, _, rfl, dW O1.2, dW X1.2, zgx (o1.same (s2.trans s3)), zgx (x1.same (s2.trans s3)), Nat.lt_of_le_of_lt (zfY _) (by decide), _, rfl, ?_⟩
         rw [zhm]
         cases c : decide (O1.2 = X1.2) with
         | true =>
          rw [c] at st
          exact iteF (iteF (hN3 _ _ _ ⟨⟨_, rfl⟩, s3, g1, by rw [g2, st]; simp⟩))
         | false =>
          rw [c] at st
          refine iteT ⟨_, rfl, _, rfl, O1.1, X1.1, O1.2, X1.2, rfl, o1.same (s2.trans s3), x1.same (s2.trans s3), o2, x2, fun H4 s4 => ⟨_, rfl, ?_⟩⟩
          cases r : zaG O1.2 X1.2 with
          | true =>
           rw [r] at st
           exact iteT ⟨_, rfl, s4 _ _ g1, hN3 _ _ _ ⟨⟨_, rfl⟩, za5 (s3.trans s4) hip, zad, by rw [g2, st]; simp⟩⟩
          | false =>
           rw [r] at st
           exact iteF (hN3 _ _ _ ⟨⟨_, rfl⟩, s3.trans s4, s4 _ _ g1, by rw [g2, st]; simp⟩)
      · rintro σ' zs H3 ⟨_, s3, g1, rfl⟩
        rw [List.length_map, List.take_length] at g1
        refine ⟨sz0, fun ep hep => ?_⟩
        have s4 := zaf hep (.lst [])
        refine ⟨ip, ep, _, rfl, rfl, s4 _ _ g1, zad, _, rfl, ?_⟩
        have ee : ((ks.filter fun k => !decide (k.2 = X1.2) && zaG k.2 X1.2).map fun x => V.ref x.1).isEmpty = zaT ks X1.2 := by
         rw [List.isEmpty_map, ze0]
         unfold zaT
         simp only [Bool.and_comm]
        rw [ee]
        have st : ((ks.take (i + 1)).filter fun k => zaT ks k.2) = (ks.take i).filter (fun k => zaT ks k.2) ++ (if zaT ks X1.2 = true then [X1] else []) := by
         rw [zar ew, List.filter_append]
         congr 1
         rw [List.filter_cons]
         rfl
        have s24 := s2.trans (s3.trans s4)
        cases c : zaT ks X1.2 with
        | true =>
         rw [c] at st
         exact iteT ⟨_, rfl, (s3.trans s4) _ _ h1, hN _ _ _ ⟨⟨_, rfl⟩, za5 s24 htp, zad, by rw [h2, st]; simp⟩⟩
        | false =>
         rw [c] at st
         exact iteF (hN _ _ _ ⟨⟨_, rfl⟩, s24, (s3.trans s4) _ _ h1, by rw [h2, st]; simp⟩)
   · rintro σ' ys H2 ⟨_, s2, h1, rfl⟩
     rw [List.length_map, List.take_length] at h1
     have T2 : zj4 H2 tp ws (ks.filter fun k => zaT ks k.2) := ⟨h1, fun x hx => dd.sub x (List.mem_filter.mp hx).1, dd.top, Nat.le_trans (List.length_filter_le _ _) dd.len⟩
     have W2 : WsAt H2 tp (ks.filter fun k => zaT ks k.2) := ⟨h1, fun x hx => ⟨((wk x (List.mem_filter.mp hx).1).1).same s2, (wk x (List.mem_filter.mp hx).1).2⟩, Nat.le_trans (List.length_filter_le _ _) lk⟩
     generalize (ks.filter fun k => zaT ks k.2) = qs at *
     refine ⟨_, rfl, zgd lrD W2 (fun x hx H3 s3 Q1 hQ => ⟨x.1, x.2, rfl, ((W2.ok x hx).1).same s3, (W2.ok x hx).2, hQ⟩) ?_ (fun w => Nat.le_trans (ziY w) (by decide)) (fun w w' => by unfold lrD; rw [ltOk, zgm]) zjE fun r rs H3 s3 nr pm sr e3 => ?_⟩
     · by_cases h2 : qs.length < 2
       · exact .inl h2
       · refine .inr (.inr fun i hi => ?_)
         have ne := T2.2.2.1.some (by rw [List.length_map]; omega) (qs.getD i (0, [])).2 (by
          rw [List.getD_eq_getElem?_getD, List.getElem?_eq_getElem hi]
          exact List.mem_map_of_mem (List.getElem_mem hi))
         cases e : (qs.getD i (0, [])).2 with
         | nil => exact absurd e ne
         | cons p ps =>
          refine ⟨[.str p.1, .bl p.2.1.isSome, .int (p.2.1.getD 0), .bl p.2.2.isNone, .int (p.2.2.getD 0)], ps.map lrP, ?_⟩
          show lrD (qs.getD i (0, [])).2 = _
          rw [e]
          rfl
     · exact q r rs H3 (s1.trans (s2.trans s3)) (s1.free (s2.free nr)) ⟨e3, fun x hx => T2.2.1 x (pm.mem_iff.mp hx), T2.2.2.1.perm (pm.map _), by rw [pm.length_eq]; exact T2.2.2.2⟩ sr
theorem zeS (F : Fun K "_law_alike" "_law_alike" zbx f fd)  (M_self : mg "_law_alike" = some (.ref f)) : FnOk P w K mg base CX0 11 f fd ["found", "due"] (zga 9 zd0) := by
 have b_self := F.binds (ps := ["found", "due"]) fun _ _ _ _ _ _ us hl => match us, hl with | [_, _], _ => rfl
 refine zjq (L := 0) (D := 9) (zja F zc2 b_self M_self 0 (zd0) fun n sp0 hsp G_law_alike => ?_)
 refine F.ok zc2 (fun vs H Q E h => ?_) (fun cdv A outer s H vs Q E hr h => ?_)
 · obtain ⟨v, v', d, rfl, n9, h1, h2, hn, q⟩ := h
   rfl
 obtain ⟨v, v', d, rfl, n9, h1, h2, hn, q⟩ := h
 refine ⟨_, (zab (zaW (zba (zai zdb rfl B.isinstance_ zal (zaa (pv 1) (zaa (za9 (zaa (zaL (v := .ty "list") rfl B.list_ zcz rfl) (zaa (zaL (v := .ty "tuple") rfl B.tuple_ zbW rfl) zac))) zac)))) (zab (zaW (PW.pt (zdf (zby (zba (zai zdb rfl B.isinstance_ zal (zaa (pv 0) (zaa (za9 (zaa (zaL (v := .ty "list") rfl B.list_ zcz rfl) (zaa (zaL (v := .ty "tuple") rfl B.tuple_ zbW rfl) zac))) zac))))) (zbY (zax zhv (zai (zaw (n := "")) rfl B.isinstance_ zal (zaa (pv 0) (zaa (zaL (v := .ty "list") rfl B.list_ zcz rfl) zac))) (zai (zaw (n := "")) rfl B.isinstance_ zal (zaa (pv 1) (zaa (zaL (v := .ty "list") rfl B.list_ zcz rfl) zac))) (zaA _))))) (zah (zap zb3)) zas)
  (zah (zap (zcv (zb8 zcU (zai zaC rfl B.len_ zbN (zaa (pv 0) zac)) (zai zaC rfl B.len_ zbN (zaa (pv 1) zac)) (zaA _)) (zbG (zai (zcN rfl) rfl B.all_ ze6 (zaa (zed (N' := ["k", "found", "due"]) (js := [none, some 0, some 1]) rfl (zcL (N := ["found", "due"]) (outer := zag zbx) (by decide +kernel)) (zcF rfl B.range_ (zaa (zai zaC rfl B.len_ zbN (zaa (pv 1) zac)) zac)) (fun _ _ _ _ _ => (zaj (i := 0) (show List.Nodup (["k", "found", "due"] : List Str) by decide +kernel) rfl (Or.inl rfl))) (fun _ _ _ _ _ => zbt) (fun _ _ _ _ _ => (zau G_law_alike (hr.mono (by omega)) rfl (zaa (zaX (zhL K rfl) (pv 1) (pv 0) (fun _ _ => rfl)) (zaa (zaX (zhL K rfl) (pv 2) (pv 0) (fun _ _ => rfl)) zac))))) zac))))))) zas)
  (zab (zaW (PW.pt (zdf (zbZ (zbi (pv 1))) (zbY (zbZ (zbi (pv 0)))))) (zah (zap (zcv (zb9 (zbi (pv 1))) (zbG (zb9 (zbi (pv 0))))))) zas)
  (zab (zaW (PW.pt (zdf (zax zhv (zai (zaw (n := "")) rfl B.isinstance_ zal (zaa (pv 1) (zaa (zaL (v := .ty "bool") rfl B.bool_ zf2 rfl) zac))) (zai (zaw (n := "")) rfl B.isinstance_ zal (zaa (pv 0) (zaa (zaL (v := .ty "bool") rfl B.bool_ zf2 rfl) zac))) (zaA _)) (zbY (zax zhv (zai (zaw (n := "")) rfl B.isinstance_ zal (zaa (pv 1) (zaa (zaL (v := .ty "int") rfl B.int_ zic rfl) zac))) (zai (zaw (n := "")) rfl B.isinstance_ zal (zaa (pv 0) (zaa (zaL (v := .ty "int") rfl B.int_ zic rfl) zac))) (zaA _))))) (zah (zap zb3)) zas)
  (zah (zap (zcv (zb8 zcU (zai (zaw (n := "")) rfl B.isinstance_ zal (zaa (pv 0) (zaa (zaL (v := .ty "str") rfl B.str_ zib rfl) zac))) (zai (zaw (n := "")) rfl B.isinstance_ zal (zaa (pv 1) (zaa (zaL (v := .ty "str") rfl B.str_ zib rfl) zac))) (zaA _)) (zbG (zb8 (zkx (zbs hr)) (pv 0) (pv 1) (zaA _))))))))), ?_⟩
 cases d with
 | non =>
  rw [RepY] at h1 h2
  subst h1 h2
  refine ⟨_, rfl, zq2, fun t1 ht1 => ?_⟩
  have s1 := zaf ht1 (.tup [V.ty "list", V.ty "tuple"])
  have c1 : (upd H t1 (.tup [V.ty "list", V.ty "tuple"])) t1 = some (.tup [V.ty "list", V.ty "tuple"]) := zad
  generalize upd H t1 (.tup [V.ty "list", V.ty "tuple"]) = H1 at *
  refine ⟨_, "NoneType", t1, _, false, rfl, .non, c1, rfl, rfl, _, rfl, iteF ?_⟩
  exact ⟨_, rfl, _, rfl, iteT (iteT ⟨_, rfl, _, rfl, iteT ⟨_, rfl, q H1 s1⟩⟩)⟩
 | bl x =>
  have r1 := h1
  have r2 := h2
  rw [RepY] at h1 h2
  subst h1 h2
  refine ⟨_, rfl, zq2, fun t1 ht1 => ?_⟩
  have s1 := zaf ht1 (.tup [V.ty "list", V.ty "tuple"])
  have c1 : (upd H t1 (.tup [V.ty "list", V.ty "tuple"])) t1 = some (.tup [V.ty "list", V.ty "tuple"]) := zad
  generalize upd H t1 (.tup [V.ty "list", V.ty "tuple"]) = H1 at *
  refine ⟨_, "bool", t1, _, false, rfl, .bl x, c1, rfl, rfl, _, rfl, iteF ?_⟩
  refine ⟨_, rfl, _, rfl, iteF ⟨_, rfl, _, rfl, iteF ?_⟩⟩
  refine ⟨_, rfl, _, "bool", "bool", true, rfl, .bl x, rfl, _, rfl, _, "bool", "bool", true, rfl, .bl x, rfl, rfl, _, rfl, iteF ?_⟩
  refine ⟨_, rfl, _, "bool", "int", true, rfl, .bl x, rfl, _, rfl, _, "bool", "int", true, rfl, .bl x, rfl, rfl, _, rfl, iteF ?_⟩
  refine ⟨_, rfl, _, "bool", "str", false, rfl, .bl x, rfl, _, rfl, _, "bool", "str", false, rfl, .bl x, rfl, rfl, _, rfl, iteT ?_⟩
  exact ⟨_, rfl, _, rfl, _, RepY.same s1 _ r1, RepY.same s1 _ r2, by omega, q H1 s1⟩
 | int x =>
  have r1 := h1
  have r2 := h2
  rw [RepY] at h1 h2
  subst h1 h2
  refine ⟨_, rfl, zq2, fun t1 ht1 => ?_⟩
  have s1 := zaf ht1 (.tup [V.ty "list", V.ty "tuple"])
  have c1 : (upd H t1 (.tup [V.ty "list", V.ty "tuple"])) t1 = some (.tup [V.ty "list", V.ty "tuple"]) := zad
  generalize upd H t1 (.tup [V.ty "list", V.ty "tuple"]) = H1 at *
  refine ⟨_, "int", t1, _, false, rfl, .int x, c1, rfl, rfl, _, rfl, iteF ?_⟩
  refine ⟨_, rfl, _, rfl, iteF ⟨_, rfl, _, rfl, iteF ?_⟩⟩
  refine ⟨_, rfl, _, "int", "bool", false, rfl, .int x, rfl, _, rfl, _, "int", "bool", false, rfl, .int x, rfl, rfl, _, rfl, iteF ?_⟩
  refine ⟨_, rfl, _, "int", "int", true, rfl, .int x, rfl, _, rfl, _, "int", "int", true, rfl, .int x, rfl, rfl, _, rfl, iteF ?_⟩
  refine ⟨_, rfl, _, "int", "str", false, rfl, .int x, rfl, _, rfl, _, "int", "str", false, rfl, .int x, rfl, rfl, _, rfl, iteT ?_⟩
  exact ⟨_, rfl, _, rfl, _, RepY.same s1 _ r1, RepY.same s1 _ r2, by omega, q H1 s1⟩
 | str x =>
  have r1 := h1
  have r2 := h2
  rw [RepY] at h1 h2
  obtain ⟨rfl, hx⟩ := h1
  obtain ⟨rfl, _⟩ := h2
  refine ⟨_, rfl, zq2, fun t1 ht1 => ?_⟩
  have s1 := zaf ht1 (.tup [V.ty "list", V.ty "tuple"])
  have c1 : (upd H t1 (.tup [V.ty "list", V.ty "tuple"])) t1 = some (.tup [V.ty "list", V.ty "tuple"]) := zad
  generalize upd H t1 (.tup [V.ty "list", V.ty "tuple"]) = H1 at *
  refine ⟨_, "str", t1, _, false, rfl, .str x, c1, rfl, rfl, _, rfl, iteF ?_⟩
  refine ⟨_, rfl, _, rfl, iteF ⟨_, rfl, _, rfl, iteF ?_⟩⟩
  refine ⟨_, rfl, _, "str", "bool", false, rfl, .str x, rfl, _, rfl, _, "str", "bool", false, rfl, .str x, rfl, rfl, _, rfl, iteF ?_⟩
  refine ⟨_, rfl, _, "str", "int", false, rfl, .str x, rfl, _, rfl, _, "str", "int", false, rfl, .str x, rfl, rfl, _, rfl, iteF ?_⟩
  refine ⟨_, rfl, _, "str", "str", true, rfl, .str x, rfl, _, rfl, _, "str", "str", true, rfl, .str x, rfl, rfl, _, rfl, iteT ?_⟩
  exact ⟨_, rfl, _, rfl, _, RepY.same s1 _ r1, RepY.same s1 _ r2, by omega, q H1 s1⟩
 | dic =>
  have r1 := h1
  have r2 := h2
  rw [RepY] at h1 h2
  obtain ⟨a, rfl, ha⟩ := h1
  obtain ⟨a', rfl, ha'⟩ := h2
  refine ⟨_, rfl, zq2, fun t1 ht1 => ?_⟩
  have s1 := zaf ht1 (.tup [V.ty "list", V.ty "tuple"])
  have c1 : (upd H t1 (.tup [V.ty "list", V.ty "tuple"])) t1 = some (.tup [V.ty "list", V.ty "tuple"]) := zad
  generalize upd H t1 (.tup [V.ty "list", V.ty "tuple"]) = H1 at *
  refine ⟨_, "dict", t1, _, false, rfl, .dK (s1 _ _ ha'), c1, rfl, rfl, _, rfl, iteF ?_⟩
  refine ⟨_, rfl, _, rfl, iteF ⟨_, rfl, _, rfl, iteF ?_⟩⟩
  refine ⟨_, rfl, _, "dict", "bool", false, rfl, .dK (s1 _ _ ha'), rfl, _, rfl, _, "dict", "bool", false, rfl, .dK (s1 _ _ ha), rfl, rfl, _, rfl, iteF ?_⟩
  refine ⟨_, rfl, _, "dict", "int", false, rfl, .dK (s1 _ _ ha'), rfl, _, rfl, _, "dict", "int", false, rfl, .dK (s1 _ _ ha), rfl, rfl, _, rfl, iteF ?_⟩
  refine ⟨_, rfl, _, "dict", "str", false, rfl, .dK (s1 _ _ ha), rfl, _, rfl, _, "dict", "str", false, rfl, .dK (s1 _ _ ha'), rfl, rfl, _, rfl, iteT ?_⟩
  exact ⟨_, rfl, _, rfl, _, RepY.same s1 _ r1, RepY.same s1 _ r2, by omega, q H1 s1⟩
 | da d =>
  have r1 := h1
  have r2 := h2
  rw [RepY] at h1 h2
  obtain ⟨a, u, rfl, ha, hu⟩ := h1
  obtain ⟨a', u', rfl, ha', hu'⟩ := h2
  refine ⟨_, rfl, zq2, fun t1 ht1 => ?_⟩
  have s1 := zaf ht1 (.tup [V.ty "list", V.ty "tuple"])
  have c1 : (upd H t1 (.tup [V.ty "list", V.ty "tuple"])) t1 = some (.tup [V.ty "list", V.ty "tuple"]) := zad
  generalize upd H t1 (.tup [V.ty "list", V.ty "tuple"]) = H1 at *
  refine ⟨_, "dict", t1, _, false, rfl, .dK (s1 _ _ ha'), c1, rfl, rfl, _, rfl, iteF ?_⟩
  refine ⟨_, rfl, _, rfl, iteF ⟨_, rfl, _, rfl, iteF ?_⟩⟩
  refine ⟨_, rfl, _, "dict", "bool", false, rfl, .dK (s1 _ _ ha'), rfl, _, rfl, _, "dict", "bool", false, rfl, .dK (s1 _ _ ha), rfl, rfl, _, rfl, iteF ?_⟩
  refine ⟨_, rfl, _, "dict", "int", false, rfl, .dK (s1 _ _ ha'), rfl, _, rfl, _, "dict", "int", false, rfl, .dK (s1 _ _ ha), rfl, rfl, _, rfl, iteF ?_⟩
  refine ⟨_, rfl, _, "dict", "str", false, rfl, .dK (s1 _ _ ha), rfl, _, rfl, _, "dict", "str", false, rfl, .dK (s1 _ _ ha'), rfl, rfl, _, rfl, iteT ?_⟩
  exact ⟨_, rfl, _, rfl, _, RepY.same s1 _ r1, RepY.same s1 _ r2, by omega, q H1 s1⟩
 | lst ds =>
  rw [RepY] at h1 h2
  obtain ⟨a, xs, rfl, ha, h9, hx⟩ := h1
  obtain ⟨a', xs', rfl, ha', _, hx'⟩ := h2
  obtain ⟨m, rfl⟩ : ∃ m, n = m + 1 := ⟨n - 1, by rw [zaP] at hn; omega⟩
  have e0 := hsp m rfl
  subst e0
  rw [zaP] at hn
  have hl := hx.length
  have hl' := hx'.length
  refine ⟨_, rfl, zq2, fun t1 ht1 => ?_⟩
  have s1 := zaf ht1 (.tup [V.ty "list", V.ty "tuple"])
  have c1 : (upd H t1 (.tup [V.ty "list", V.ty "tuple"])) t1 = some (.tup [V.ty "list", V.ty "tuple"]) := zad
  generalize upd H t1 (.tup [V.ty "list", V.ty "tuple"]) = H1 at *
  refine ⟨_, "list", t1, _, true, rfl, .lst (s1 _ _ ha'), c1, rfl, rfl, _, rfl, iteT ⟨_, rfl, zq2, fun t2 ht2 => ?_⟩⟩
  have s2 := zaf ht2 (.tup [V.ty "list", V.ty "tuple"])
  have c2 : (upd H1 t2 (.tup [V.ty "list", V.ty "tuple"])) t2 = some (.tup [V.ty "list", V.ty "tuple"]) := zad
  generalize upd H1 t2 (.tup [V.ty "list", V.ty "tuple"]) = H2 at *
  have S := s1.trans s2
  have ka := S _ _ ha
  have ka' := S _ _ ha'
  refine ⟨_, "list", t2, _, true, rfl, .lst ka, c2, rfl, rfl, _, rfl, iteF ⟨_, rfl, _, "list", "list", true, rfl, .lst ka, rfl, _, rfl, _, "list", "list", true, rfl, .lst ka', rfl, rfl, _, rfl, iteF ?_⟩⟩
  refine ⟨_, rfl, a, _, rfl, .inl (SqL.of ka), _, rfl, a', _, rfl, .inl (SqL.of ka'), rfl, _, rfl, ?_⟩
  rw [decide_eq_true (show V.int ((xs.length : Nat) : Int) = V.int ((xs'.length : Nat) : Int) by rw [hl, hl'])]
  refine iteT ⟨_, rfl, a', _, rfl, .inl (SqL.of ka'), _, rfl, by omega, by omega, fun p hp => ?_⟩
  have s3 := zaf hp (.lst [])
  refine zen (n := ((xs'.length : Nat) : Int).toNat) (fun i σ' ys H' => (∃ v, σ' = [v, some (.ref a), some (.ref a')]) ∧ Same H2 H' ∧ H' p = some (.lst ys) ∧ ys = (List.replicate i true).map V.bl) ⟨⟨none, rfl⟩, s3, zad, rfl⟩ ?_ ?_ ?_
  · rintro i σ' ys H' hi ⟨_, _, h1, h2⟩
    exact ⟨h1, by rw [h2, List.length_map, List.length_replicate]; exact zav (by omega)⟩
  · rintro i σ' ys H4 N hi ⟨⟨v, rfl⟩, s4, h1, h2⟩ hN
    have hi2 : i < xs'.length := by omega
    obtain ⟨x, ex⟩ : ∃ x, xs[i]? = some x := ⟨xs[i]'(by omega), by simp [hl, hl', hi2]⟩
    obtain ⟨x', ex'⟩ : ∃ x, xs'[i]? = some x := ⟨xs'[i], by simp [hi2]⟩
    obtain ⟨d, ed, rd⟩ := hx.get ex
    obtain ⟨d', ed', rd'⟩ := hx'.get ex'
    rw [ed] at ed'
    injection ed' with ed'
    subst ed'
    have e0 : (0 : Int) + (i : Int) = (i : Int) := by omega
    have at1 : atI xs (0 + (i : Int)) = some x := by rw [e0]; exact zbX ex
    have at2 : atI xs' (0 + (i : Int)) = some x' := by rw [e0]; exact zbX ex'
    have S4 := S.trans s4
    refine ⟨_, rfl, _, rfl, a, xs, _, x, rfl, rfl, .inl (SqL.of (S4 _ _ ha)), at1, _, rfl, _, rfl, a', xs', _, x', rfl, rfl, .inl (SqL.of (S4 _ _ ha')), at2, x, x', d, rfl, by omega, RepY.same S4 d rd, RepY.same S4 d rd', by have := zcZ (List.mem_of_getElem? ed); omega, fun H5 s5 => ⟨s5 _ _ h1, hN _ _ _ ⟨⟨_, rfl⟩, ?_, zad, ?_⟩⟩⟩
    · intro b o q
      have : b ≠ p := fun z => by rw [z, hp] at q; cases q
      rw [zak this]
      exact s5 _ _ (s4 b o q)
    · rw [h2, List.replicate_succ', List.map_append]; rfl
  · rintro σ' ys H4 ⟨_, s4, h1, h2⟩
    refine ⟨p, _, rfl, SqL.of (by rw [h1, h2]), ?_⟩
    have e : (List.replicate ((xs'.length : Nat) : Int).toNat true).all id = true := by simp
    rw [e]
    exact q H4 (S.trans s4)
 | tup ds =>
  rw [RepY] at h1 h2
  obtain ⟨a, xs, rfl, ha, h9, hx⟩ := h1
  obtain ⟨a', xs', rfl, ha', _, hx'⟩ := h2
  obtain ⟨m, rfl⟩ : ∃ m, n = m + 1 := ⟨n - 1, by rw [zaP] at hn; omega⟩
  have e0 := hsp m rfl
  subst e0
  rw [zaP] at hn
  have hl := hx.length
  have hl' := hx'.length
  refine ⟨_, rfl, zq2, fun t1 ht1 => ?_⟩
  have s1 := zaf ht1 (.tup [V.ty "list", V.ty "tuple"])
  have c1 : (upd H t1 (.tup [V.ty "list", V.ty "tuple"])) t1 = some (.tup [V.ty "list", V.ty "tuple"]) := zad
  generalize upd H t1 (.tup [V.ty "list", V.ty "tuple"]) = H1 at *
  refine ⟨_, "tuple", t1, _, true, rfl, .tup (s1 _ _ ha'), c1, rfl, rfl, _, rfl, iteT ⟨_, rfl, zq2, fun t2 ht2 => ?_⟩⟩
  have s2 := zaf ht2 (.tup [V.ty "list", V.ty "tuple"])
  have c2 : (upd H1 t2 (.tup [V.ty "list", V.ty "tuple"])) t2 = some (.tup [V.ty "list", V.ty "tuple"]) := zad
  generalize upd H1 t2 (.tup [V.ty "list", V.ty "tuple"]) = H2 at *
  have S := s1.trans s2
  have ka := S _ _ ha
  have ka' := S _ _ ha'
  refine ⟨_, "tuple", t2, _, true, rfl, .tup ka, c2, rfl, rfl, _, rfl, iteF ⟨_, rfl, _, "tuple", "list", false, rfl, .tup ka, rfl, _, rfl, _, "tuple", "list", false, rfl, .tup ka', rfl, rfl, _, rfl, iteF ?_⟩⟩
  refine ⟨_, rfl, a, _, rfl, .inr (SqT.of ka), _, rfl, a', _, rfl, .inr (SqT.of ka'), rfl, _, rfl, ?_⟩
  rw [decide_eq_true (show V.int ((xs.length : Nat) : Int) = V.int ((xs'.length : Nat) : Int) by rw [hl, hl'])]
  refine iteT ⟨_, rfl, a', _, rfl, .inr (SqT.of ka'), _, rfl, by omega, by omega, fun p hp => ?_⟩
  have s3 := zaf hp (.lst [])
  refine zen (n := ((xs'.length : Nat) : Int).toNat) (fun i σ' ys H' => (∃ v, σ' = [v, some (.ref a), some (.ref a')]) ∧ Same H2 H' ∧ H' p = some (.lst ys) ∧ ys = (List.replicate i true).map V.bl) ⟨⟨none, rfl⟩, s3, zad, rfl⟩ ?_ ?_ ?_
  · rintro i σ' ys H' hi ⟨_, _, h1, h2⟩
    exact ⟨h1, by rw [h2, List.length_map, List.length_replicate]; exact zav (by omega)⟩
  · rintro i σ' ys H4 N hi ⟨⟨v, rfl⟩, s4, h1, h2⟩ hN
    have hi2 : i < xs'.length := by omega
    obtain ⟨x, ex⟩ : ∃ x, xs[i]? = some x := ⟨xs[i]'(by omega), by simp [hl, hl', hi2]⟩
    obtain ⟨x', ex'⟩ : ∃ x, xs'[i]? = some x := ⟨xs'[i], by simp [hi2]⟩
    obtain ⟨d, ed, rd⟩ := hx.get ex
    obtain ⟨d', ed', rd'⟩ := hx'.get ex'
    rw [ed] at ed'
    injection ed' with ed'
    subst ed'
    have e0 : (0 : Int) + (i : Int) = (i : Int) := by omega
    have at1 : atI xs (0 + (i : Int)) = some x := by rw [e0]; exact zbX ex
    have at2 : atI xs' (0 + (i : Int)) = some x' := by rw [e0]; exact zbX ex'
    have S4 := S.trans s4
    refine ⟨_, rfl, _, rfl, a, xs, _, x, rfl, rfl, .inr (SqT.of (S4 _ _ ha)), at1, _, rfl, _, rfl, a', xs', _, x', rfl, rfl, .inr (SqT.of (S4 _ _ ha')), at2, x, x', d, rfl, by omega, RepY.same S4 d rd, RepY.same S4 d rd', by have := zcZ (List.mem_of_getElem? ed); omega, fun H5 s5 => ⟨s5 _ _ h1, hN _ _ _ ⟨⟨_, rfl⟩, ?_, zad, ?_⟩⟩⟩
    · intro b o q
      have : b ≠ p := fun z => by rw [z, hp] at q; cases q
      rw [zak this]
      exact s5 _ _ (s4 b o q)
    · rw [h2, List.replicate_succ', List.map_append]; rfl
  · rintro σ' ys H4 ⟨_, s4, h1, h2⟩
    refine ⟨p, _, rfl, SqL.of (by rw [h1, h2]), ?_⟩
    have e : (List.replicate ((xs'.length : Nat) : Int).toNat true).all id = true := by simp
    rw [e]
    exact q H4 (S.trans s4)
theorem zkz (F : Fun K "law" "law" zfs f fd) (G_law_well : Γ18 P w K mg base) (G_law_fields : Γ21 P w K mg base) (G_law_grid : Γ23 P w K mg base) (G_law_wishes : Γ26 P w K mg base) (G_law_greatest : Γ30 P w K mg base) (G_greatest : Γ17 P w K mg base) (G_law_alike : Γ31 P w K mg base) (G_law_take : Γ19 P w K mg base) : FnOk P w K mg base CX0 12 f fd ["script"] (ziq K) := by
 refine F.ok sc_law (fun vs H Q E h => ?_) (fun cdv A outer s H vs Q E hr h => ?_)
 · obtain ⟨a, ns, rfl, hS, h63, q⟩ := h
   rfl
 obtain ⟨a, ns, rfl, hS, h63, q⟩ := h
 refine ⟨_, (zab (zao (i := 1) sc_law.nd rfl (Or.inl rfl) (zau G_law_well (hr.mono (by decide)) rfl (zaa (pv 0) zac)))
  (zab (zao (i := 2) sc_law.nd rfl (Or.inl rfl) (zb8 zcU (zau G_law_take (hr.mono (by decide)) rfl (zaa (pv 1) (zaa zae zac))) zae (zaA _)))
  (zab (zao (i := 3) sc_law.nd rfl (Or.inl rfl) (zat zaS zae (zau G_law_take (hr.mono (by decide)) rfl (zaa (pv 1) (zaa zae zac)))))
  (zab (zao (i := 4) sc_law.nd rfl (Or.inl rfl) (zat zaS (zau G_law_take (hr.mono (by decide)) rfl (zaa (pv 1) (zaa zae zac))) (zai (ze4 rfl) rfl B.min_ zjj (zaa zae (zaa (zai zaC rfl B.len_ zbN (zaa (pv 0) zac)) zac)))))
  (zab (zao (i := 5) sc_law.nd rfl (Or.inl rfl) (zaX zaJ (zb0 (zaa zae (zaa zae (zaa zae (zaa zae zac))))) (zau G_law_take (hr.mono (by decide)) rfl (zaa (pv 1) (zaa zae zac))) (fun _ _ => rfl)))
  (zab (zaW (zba (pv 2)) (zab (zao (i := 4) sc_law.nd rfl (Or.inl rfl) (zat zaS (pv 4) (zau G_law_take (hr.mono (by decide)) rfl (zaa (pv 1) (zaa zae zac)))))
  (zah (zao (i := 5) sc_law.nd rfl (Or.inl rfl) zae))) zas)
  (zab (zao (i := 6) sc_law.nd rfl (Or.inl rfl) (zau G_law_fields (hr.mono (by decide)) rfl (zaa (pv 1) (zaa (pv 5) zac))))
  (zab (zao (i := 7) sc_law.nd rfl (Or.inl rfl) (zau G_law_grid (hr.mono (by decide)) rfl (zaa (pv 1) zac)))
  (zab (zao (i := 8) sc_law.nd rfl (Or.inl rfl) (zau G_law_wishes (hr.mono (by decide)) rfl (zaa (pv 1) (zaa (pv 6) (zaa (pv 7) (zaa (pv 3) (zaa (pv 4) zac)))))))
  (zab (zao (i := 9) sc_law.nd rfl (Or.inl rfl) (zcG zc8 rfl B.list_ zcz (zaa (pv 8) zac)))
  (zab (zao (i := 10) sc_law.nd rfl (Or.inl rfl) (zau G_law_greatest (hr.mono (by decide)) rfl (zaa (pv 8) zac)))
  (zab (zao (i := 11) sc_law.nd rfl (Or.inl rfl) (zau G_greatest (hr.mono (by decide)) rfl (zaa (pv 9) zac)))
  (zab (zaW (PW.pt (zdf (zby (zba (zau G_law_alike (hr.mono (by decide)) rfl (zaa (pv 11) (zaa (pv 10) zac))))) (zbY (zby (zba (zau G_law_alike (hr.mono (by decide)) rfl (zaa (pv 9) (zaa (pv 8) zac)))))))) (zah (zap zb3)) zas)
  (zab (zao (i := 12) sc_law.nd rfl (Or.inl rfl) (zau G_greatest (hr.mono (by decide)) rfl (zaa (zcG zc8 rfl B.list_ zcz (zaa (pv 10) zac)) zac)))
  (zab (zbQ (zee PySem.F.plainAttrs_list PySem.F.slot_list_append PySem.F.type_list_append zbk (pv 11) (zaa (za9 zac) zac)))
  (zab (zaW (PW.pt (zdf (zby (zba (zau G_law_alike (hr.mono (by decide)) rfl (zaa (pv 9) (zaa (pv 8) zac))))) (zbY (zby (zba (zau G_law_alike (hr.mono (by decide)) rfl (zaa (pv 12) (zaa (pv 10) zac)))))))) (zah (zap zb3)) zas)
  (zab (zbQ (zee PySem.F.plainAttrs_list PySem.F.slot_list_append PySem.F.type_list_append zbk (pv 12) (zaa zae zac)))
  (zah (zap (zau G_law_alike (hr.mono (by decide)) rfl (zaa (zau G_greatest (hr.mono (by decide)) rfl (zaa (pv 9) zac)) (zaa (pv 10) zac)))))))))))))))))))))), ?_⟩
 refine ⟨_, rfl, a, ns, rfl, hS, h63, fun b g l H1 B1 S1 nb ng => ?_⟩
 refine ⟨_, rfl, b, g, l, _, 16, rfl, B1, by decide, by decide, by decide, fun c1 H2 _ _ B2 S2 => ⟨rfl, ?_⟩⟩
 generalize decide (V.int c1 = V.int 15) = lg
 refine ⟨_, rfl, b, g, l, _, 5, rfl, B2, by decide, by decide, by decide, fun c2 H3 wd0 wd1 B3 S3 => ⟨_, _, rfl, rfl, ?_⟩⟩
 refine ⟨_, rfl, b, g, l, _, 8, rfl, B3, by decide, by decide, by decide, fun c3 H4 m0 m1 B4 S4 => ?_⟩
 refine ⟨_, rfl, a, _, rfl, .inl (zit hS nb ng S1 (S2.trans (S3.trans S4))), _, _, rfl, _, _, rfl, rfl, ?_⟩
 rw [List.length_map]
 obtain ⟨mn, emn, mn0, mn1⟩ : ∃ mn : Int, c3 + (if (ns.length : Int) < 40 then (ns.length : Int) else 40) = mn ∧ 0 ≤ mn ∧ mn ≤ 47 := ⟨_, rfl, by split <;> omega, by split <;> omega⟩
 dsimp only
 rw [emn]
 refine zbj ?_
 refine ⟨(by show 4 ≤ sizeLine; decide), fun ml hml => ?_⟩
 have s5 := zaf hml (.lst [V.int 3, V.int 3, V.int 6, V.int 1])
 have e5 : (upd H4 ml (.lst [V.int 3, V.int 3, V.int 6, V.int 1])) ml = some (.lst [V.int 3, V.int 3, V.int 6, V.int 1]) := zad
 have B5 := B4.same s5
 obtain ⟨x5, y5, _⟩ := B4.free hml
 generalize upd H4 ml (.lst [V.int 3, V.int 3, V.int 6, V.int 1]) = H5 at *
 refine ⟨_, rfl, b, g, l, _, 4, rfl, B5, by decide, by decide, by decide, fun c4 H6 k0 k1 B6 S6 => ?_⟩
 obtain ⟨ms, ems, ms0, ms1⟩ : ∃ ms : Int, atI [V.int 3, V.int 3, V.int 6, V.int 1] c4 = some (.int ms) ∧ 1 ≤ ms ∧ ms ≤ 6 := by
  have : c4 = 0 ∨ c4 = 1 ∨ c4 = 2 ∨ c4 = 3 := by omega
  rcases this with h | h | h | h <;> rw [h]
  · exact ⟨3, rfl, by decide, by decide⟩
  · exact ⟨3, rfl, by decide, by decide⟩
  · exact ⟨6, rfl, by decide, by decide⟩
  · exact ⟨1, rfl, by decide, by decide⟩
 refine ⟨ml, _, _, _, rfl, rfl, SqL.of (S6 _ _ e5 x5 y5), ems, ?_⟩
 dsimp only
 refine zbB (fun σ' H' => ∃ mn ms : Int, σ' = [some (.ref a), some (.ref b), some (.bl lg), some (.int (1 + c2)), some (.int mn), some (.int ms), none, none, none, none, none, none, none] ∧ 0 ≤ mn ∧ mn ≤ 400 ∧ 1 ≤ ms ∧ ms ≤ 6 ∧ Well H' b g l 5) (fun Z hZ => ?_) ?_
 · cases lg with
   | false => exact ⟨_, rfl, _, rfl, iteF (hZ _ _ ⟨mn, ms, rfl, mn0, by omega, ms0, ms1, B6.mono (by decide)⟩)⟩
   | true => exact ⟨_, rfl, _, rfl, iteT ⟨_, rfl, _, rfl, b, g, l, _, 154, rfl, B6, by decide, by decide, by decide, fun c5 H7 d0 d1 B7 S7 => ⟨_, _, rfl, rfl, hZ _ _ ⟨mn + c5, 2, rfl, by omega, by omega, by decide, by decide, B7.mono (by decide)⟩⟩⟩⟩
 rintro σ' H7 ⟨mn, ms, rfl, mn0, mn1, ms0, ms1, B7⟩
 refine ⟨_, rfl, _, rfl, b, g, l, _, ms, rfl, B7, by decide, ms0, ms1, fun na fs H8 n8 e8 asc8 ok8 l1 l6 B8 S8 => ?_⟩
 obtain ⟨xb, xg, _⟩ := B7.free n8
 have N8 : NamesAt H8 b g na fs := ⟨e8, xb, xg, by omega, ok8, asc8⟩
 refine ⟨_, rfl, b, g, l, _, rfl, B8, by decide, fun t lo sz H9 et lo1 lo2 sz1 sz2 B9 S9 => ?_⟩
 refine ⟨_, rfl, _, rfl, _, rfl, _, rfl, _, rfl, b, g, l, na, t, _, lo, sz, 1 + c2, mn, fs, rfl, B9, by decide, N8.sameB S9, et, sz1, sz2, by omega, by omega, mn0, mn1, fun r ws H10 nr W10 lw in10 B10 S10 => ?_⟩
 refine ⟨_, rfl, r, _, rfl, .inl (SqL.of W10.at'), fun hd hhd => ?_⟩
 have s11 := zaf hhd (.lst (ws.map fun x => V.ref x.1))
 have e11 : (upd H10 hd (.lst (ws.map fun x => V.ref x.1))) hd = some (.lst (ws.map fun x => V.ref x.1)) := zad
 have W11 := W10.same s11
 generalize upd H10 hd (.lst (ws.map fun x => V.ref x.1)) = H11 at *
 have D11 : WsAt H11 hd ws := ⟨e11, W11.ok, W11.len⟩
 refine ⟨_, rfl, r, ws, rfl, W11, fun du qs H12 s12 ndu T12 srt12 => ?_⟩
 have W12 := W11.same s12
 have D12 := D11.same s12
 have U12 : WsAt H12 du qs := ⟨T12.1, fun x hx => W12.ok x (T12.2.1 x hx), Nat.le_trans T12.2.2.2 W12.len⟩
 refine ⟨_, rfl, hd, ws, rfl, D12, fun fo rs H13 s13 nfo T13 srt13 => ?_⟩
 have F13 : WsAt H13 fo rs := ⟨T13.1, fun x hx => (W12.same s13).ok x (T13.2.1 x hx), Nat.le_trans T13.2.2.2 W12.len⟩
 have eq1 : rs.map (·.2) = qs.map (·.2) := zdZ T13.2.2.1 T12.2.2.1 srt13 srt12
 refine ⟨_, rfl, _, rfl, 3, by decide, _, _, _, rfl, by decide, F13.repY, (by rw [eq1]; exact (U12.same s13).repY), zbM _, fun H14 s14 => ⟨_, rfl, iteF ?_⟩⟩
 refine ⟨_, rfl, _, rfl, 3, by decide, _, _, _, rfl, by decide, (D12.same (s13.trans s14)).repY, (W12.same (s13.trans s14)).repY, zbM _, fun H15 s15 => ⟨_, rfl, iteF ?_⟩⟩
 have t15 := s13.trans (s14.trans s15)
 have U15 := U12.same t15
 refine ⟨_, rfl, du, _, rfl, .inl (SqL.of U15.at'), fun ld hld => ?_⟩
 have s16 := zaf hld (.lst (qs.map fun x => V.ref x.1))
 have e16 : (upd H15 ld (.lst (qs.map fun x => V.ref x.1))) ld = some (.lst (qs.map fun x => V.ref x.1)) := zad
 have U16 := U15.same s16
 generalize upd H15 ld (.lst (qs.map fun x => V.ref x.1)) = H16 at *
 have t16 := t15.trans s16
 refine ⟨ld, qs, rfl, ⟨e16, U16.ok, U16.len⟩, fun ag us H17 s17 nag T17 srt17 => ?_⟩
 have A17 : WsAt H17 ag us := ⟨T17.1, fun x hx => (U16.same s17).ok x (T17.2.1 x hx), Nat.le_trans T17.2.2.2 U16.len⟩
 have eq2 : us.map (·.2) = qs.map (·.2) := zdZ T17.2.2.1 T12.2.2.1.again srt17 srt12
 have t17 := t16.trans s17
 have F16 := F13.same (s14.trans (s15.trans s16))
 have F17 := F16.same s17
 have nfa : ag ≠ fo := fun e => by rw [e, F16.at'] at nag; cases nag
 refine ⟨_, rfl, .inl ⟨rfl, _, SqL.of F17.at'⟩, sz0, fun et' het => ?_⟩
 have s18 := zaf het (.tup [])
 have F18 := F17.same s18
 refine ⟨fo, _, _, rfl, rfl, F18.at', (by rw [List.length_map]; have := F18.len; exact zav (by omega)), ?_⟩
 have A19 := (A17.same s18).upd (ys := rs.map (fun x => V.ref x.1) ++ [V.ref et']) nfa F18.at'
 have t19 := za5 (o := .lst (rs.map (fun x => V.ref x.1) ++ [V.ref et'])) (t17.trans s18) nfo
 generalize upd (upd H17 et' (.tup [])) fo (.lst (rs.map (fun x => V.ref x.1) ++ [V.ref et'])) = H19 at *
 refine ⟨_, rfl, _, rfl, 3, by decide, _, _, _, rfl, by decide, (D12.same t19).repY, (W12.same t19).repY, zbM _, fun H20 s20 => ⟨_, rfl, iteF ?_⟩⟩
 refine ⟨_, rfl, _, rfl, 3, by decide, _, _, _, rfl, by decide, (A19.same s20).repY, (by rw [eq2]; exact (U12.same (t19.trans s20)).repY), zbM _, fun H21 s21 => ⟨_, rfl, iteF ?_⟩⟩
 have A21 := A19.same (s20.trans s21)
 have t21 := t19.trans (s20.trans s21)
 refine ⟨_, rfl, .inl ⟨rfl, _, SqL.of A21.at'⟩, ag, _, _, rfl, rfl, A21.at', (by rw [List.length_map]; have := A21.len; exact zav (by omega)), ?_⟩
 have t22 := za5 (o := .lst (us.map (fun x => V.ref x.1) ++ [V.int 7])) t21 (t16.free nag)
 generalize upd H21 ag (.lst (us.map (fun x => V.ref x.1) ++ [V.int 7])) = H22 at *
 refine ⟨_, rfl, hd, ws, rfl, D12.same t22, fun g2 vs H23 s23 ng2 T23 srt23 => ?_⟩
 have G23 : WsAt H23 g2 vs := ⟨T23.1, fun x hx => (W12.same (t22.trans s23)).ok x (T23.2.1 x hx), Nat.le_trans T23.2.2.2 W12.len⟩
 have eq3 : vs.map (·.2) = qs.map (·.2) := zdZ T23.2.2.1 T12.2.2.1 srt23 srt12
 exact ⟨_, rfl, 3, by decide, _, _, _, rfl, by decide, G23.repY, (by rw [eq3]; exact (U12.same (t22.trans s23)).repY), zbM _, fun H24 s24 => q _⟩
end
open PySem.W (nsIn mg_of mg_none_of fnOf keepIn codeIn)
abbrev dF (n : Str) (s : Stmt) := fnOf n n (zbA s) (zbp s) (zag s) .none
theorem bn1 {K : PySem.W.Frag} {x : Str} {st : Stmt} {f : Addr} {fd : FuncData} {p0 : Str} (F : Fun K x x st f fd) (h : ∀ (kV doc pm : Value) (an : Option Addr) (cdv ct u0 : Value), bindArgs (fnOf x x (zbA st) (zbp st) (zag st) .none kV doc pm an cdv ct) ⟨[u0], []⟩ = pure [(p0, u0)] := by intros; rfl) : Binds K fd [p0] [] :=
 F.binds fun kV doc pm an cdv ct us hl => match us, hl with | [u0], _ => h kV doc pm an cdv ct u0
theorem bn2 {K : PySem.W.Frag} {x : Str} {st : Stmt} {f : Addr} {fd : FuncData} {p0 p1 : Str} (F : Fun K x x st f fd) (h : ∀ (kV doc pm : Value) (an : Option Addr) (cdv ct u0 u1 : Value), bindArgs (fnOf x x (zbA st) (zbp st) (zag st) .none kV doc pm an cdv ct) ⟨[u0, u1], []⟩ = pure [(p0, u0), (p1, u1)] := by intros; rfl) : Binds K fd [p0, p1] [] :=
 F.binds fun kV doc pm an cdv ct us hl => match us, hl with | [u0, u1], _ => h kV doc pm an cdv ct u0 u1
theorem bn3 {K : PySem.W.Frag} {x : Str} {st : Stmt} {f : Addr} {fd : FuncData} {p0 p1 p2 : Str} (F : Fun K x x st f fd) (h : ∀ (kV doc pm : Value) (an : Option Addr) (cdv ct u0 u1 u2 : Value), bindArgs (fnOf x x (zbA st) (zbp st) (zag st) .none kV doc pm an cdv ct) ⟨[u0, u1, u2], []⟩ = pure [(p0, u0), (p1, u1), (p2, u2)] := by intros; rfl) : Binds K fd [p0, p1, p2] [] :=
 F.binds fun kV doc pm an cdv ct us hl => match us, hl with | [u0, u1, u2], _ => h kV doc pm an cdv ct u0 u1 u2
theorem bn4 {K : PySem.W.Frag} {x : Str} {st : Stmt} {f : Addr} {fd : FuncData} {p0 p1 p2 p3 : Str} (F : Fun K x x st f fd) (h : ∀ (kV doc pm : Value) (an : Option Addr) (cdv ct u0 u1 u2 u3 : Value), bindArgs (fnOf x x (zbA st) (zbp st) (zag st) .none kV doc pm an cdv ct) ⟨[u0, u1, u2, u3], []⟩ = pure [(p0, u0), (p1, u1), (p2, u2), (p3, u3)] := by intros; rfl) : Binds K fd [p0, p1, p2, p3] [] :=
 F.binds fun kV doc pm an cdv ct us hl => match us, hl with | [u0, u1, u2, u3], _ => h kV doc pm an cdv ct u0 u1 u2 u3
theorem bn5 {K : PySem.W.Frag} {x : Str} {st : Stmt} {f : Addr} {fd : FuncData} {p0 p1 p2 p3 p4 : Str} (F : Fun K x x st f fd) (h : ∀ (kV doc pm : Value) (an : Option Addr) (cdv ct u0 u1 u2 u3 u4 : Value), bindArgs (fnOf x x (zbA st) (zbp st) (zag st) .none kV doc pm an cdv ct) ⟨[u0, u1, u2, u3, u4], []⟩ = pure [(p0, u0), (p1, u1), (p2, u2), (p3, u3), (p4, u4)] := by intros; rfl) : Binds K fd [p0, p1, p2, p3, p4] [] :=
 F.binds fun kV doc pm an cdv ct us hl => match us, hl with | [u0, u1, u2, u3, u4], _ => h kV doc pm an cdv ct u0 u1 u2 u3 u4
theorem all_mk {l : PySem.W.OpenLaw} {w : World} {K : PySem.W.Frag} {h : Heap} {mg : Str → Option Value} {fa f1 f2 f3 f4 f5 f6 f7 f8 f9 f10 f11 f12 f13 f14 f15 f16 f17 f18 f19 f20 f21 f22 f23 f24 f25 f26 f27 f28 f29 f30 f31 f32 f33 : Addr} (X : K.In h) (G : h.Ns mainGlobals mg) (hfa : mg "law" = some (.ref fa))
 {od1 od2 od3 od4 od5 od6 od7 od8 od9 od10 od11 od12 od13 od14 od15 od16 od17 od18 od19 od20 od21 od22 od23 od24 od25 od26 od27 od28 od29 od30 od31 od32 od33 an1 an2 an3 an4 an5 an6 an7 an8 an9 an10 an11 an12 an13 an14 an15 an16 an17 an18 an19 an20 an21 an22 an23 an24 an25 an26 an27 an28 an29 an30 an31 an32 an33 : Option Addr} {sl1 sl2 sl3 sl4 sl5 sl6 sl7 sl8 sl9 sl10 sl11 sl12 sl13 sl14 sl15 sl16 sl17 sl18 sl19 sl20 sl21 sl22 sl23 sl24 sl25 sl26 sl27 sl28 sl29 sl30 sl31 sl32 sl33 : Array (Option Value)} {oc1 oc2 oc3 oc4 oc5 oc6 oc7 oc8 oc9 oc10 oc11 oc12 oc13 oc14 oc15 oc16 oc17 oc18 oc19 oc20 oc21 oc22 oc23 oc24 oc25 oc26 oc27 oc28 oc29 oc30 oc31 oc32 oc33 kV1 kV2 kV3 kV4 kV5 kV6 kV7 kV8 kV9 kV10 kV11 kV12 kV13 kV14 kV15 kV16 kV17 kV18 kV19 kV20 kV21 kV22 kV23 kV24 kV25 kV26 kV27 kV28 kV29 kV30 kV31 kV32 kV33 dc1 dc2 dc3 dc4 dc5 dc6 dc7 dc8 dc9 dc10 dc11 dc12 dc13 dc14 dc15 dc16 dc17 dc18 dc19 dc20 dc21 dc22 dc23 dc24 dc25 dc26 dc27 dc28 dc29 dc30 dc31 dc32 dc33 pm1 pm2 pm3 pm4 pm5 pm6 pm7 pm8 pm9 pm10 pm11 pm12 pm13 pm14 pm15 pm16 pm17 pm18 pm19 pm20 pm21 pm22 pm23 pm24 pm25 pm26 pm27 pm28 pm29 pm30 pm31 pm32 pm33 cd1 cd2 cd3 cd4 cd5 cd6 cd7 cd8 cd9 cd10 cd11 cd12 cd13 cd14 cd15 cd16 cd17 cd18 cd19 cd20 cd21 cd22 cd23 cd24 cd25 cd26 cd27 cd28 cd29 cd30 cd31 cd32 cd33 ct1 ct2 ct3 ct4 ct5 ct6 ct7 ct8 ct9 ct10 ct11 ct12 ct13 ct14 ct15 ct16 ct17 ct18 ct19 ct20 ct21 ct22 ct23 ct24 ct25 ct26 ct27 ct28 ct29 ct30 ct31 ct32 ct33 : Value}
 (a1 : nsIn K mainGlobals "is_whole" = some (some (.ref f1))) (l1 : K.lookup f1 = some ⟨oc1, od1, .func (dF "is_whole" zcl kV1 dc1 pm1 an1 cd1 ct1), sl1⟩) (c1 : codeIn K cd1 "is_whole" = true) (k1 : keepIn K (.ref f1) = true)
 (a2 : nsIn K mainGlobals "is_end" = some (some (.ref f2))) (l2 : K.lookup f2 = some ⟨oc2, od2, .func (dF "is_end" zdj kV2 dc2 pm2 an2 cd2 ct2), sl2⟩) (c2 : codeIn K cd2 "is_end" = true) (k2 : keepIn K (.ref f2) = true)
 (a3 : nsIn K mainGlobals "is_span" = some (some (.ref f3))) (l3 : K.lookup f3 = some ⟨oc3, od3, .func (dF "is_span" zcD kV3 dc3 pm3 an3 cd3 ct3), sl3⟩) (c3 : codeIn K cd3 "is_span" = true) (k3 : keepIn K (.ref f3) = true)
 (a4 : nsIn K mainGlobals "span_reaches" = some (some (.ref f4))) (l4 : K.lookup f4 = some ⟨oc4, od4, .func (dF "span_reaches" zbc kV4 dc4 pm4 an4 cd4 ct4), sl4⟩) (c4 : codeIn K cd4 "span_reaches" = true) (k4 : keepIn K (.ref f4) = true)
 (a5 : nsIn K mainGlobals "is_field" = some (some (.ref f5))) (l5 : K.lookup f5 = some ⟨oc5, od5, .func (dF "is_field" zbL kV5 dc5 pm5 an5 cd5 ct5), sl5⟩) (c5 : codeIn K cd5 "is_field" = true) (k5 : keepIn K (.ref f5) = true)
 (a6 : nsIn K mainGlobals "is_wish_part" = some (some (.ref f6))) (l6 : K.lookup f6 = some ⟨oc6, od6, .func (dF "is_wish_part" zbe kV6 dc6 pm6 an6 cd6 ct6), sl6⟩) (c6 : codeIn K cd6 "is_wish_part" = true) (k6 : keepIn K (.ref f6) = true)
 (a7 : nsIn K mainGlobals "fields_ascend" = some (some (.ref f7))) (l7 : K.lookup f7 = some ⟨oc7, od7, .func (dF "fields_ascend" zaR kV7 dc7 pm7 an7 cd7 ct7), sl7⟩) (c7 : codeIn K cd7 "fields_ascend" = true) (k7 : keepIn K (.ref f7) = true)
 (a8 : nsIn K mainGlobals "is_wish" = some (some (.ref f8))) (l8 : K.lookup f8 = some ⟨oc8, od8, .func (dF "is_wish" zb4 kV8 dc8 pm8 an8 cd8 ct8), sl8⟩) (c8 : codeIn K cd8 "is_wish" = true) (k8 : keepIn K (.ref f8) = true)
 (a9 : nsIn K mainGlobals "are_wishes" = some (some (.ref f9))) (l9 : K.lookup f9 = some ⟨oc9, od9, .func (dF "are_wishes" zbg kV9 dc9 pm9 an9 cd9 ct9), sl9⟩) (c9 : codeIn K cd9 "are_wishes" = true) (k9 : keepIn K (.ref f9) = true)
 (a10 : nsIn K mainGlobals "check_wishes" = some (some (.ref f10))) (l10 : K.lookup f10 = some ⟨oc10, od10, .func (dF "check_wishes" zbf kV10 dc10 pm10 an10 cd10 ct10), sl10⟩) (c10 : codeIn K cd10 "check_wishes" = true) (k10 : keepIn K (.ref f10) = true)
 (a11 : nsIn K mainGlobals "spans_by_field" = some (some (.ref f11))) (l11 : K.lookup f11 = some ⟨oc11, od11, .func (dF "spans_by_field" zaO kV11 dc11 pm11 an11 cd11 ct11), sl11⟩) (c11 : codeIn K cd11 "spans_by_field" = true) (k11 : keepIn K (.ref f11) = true)
 (a12 : nsIn K mainGlobals "reaches_spans" = some (some (.ref f12))) (l12 : K.lookup f12 = some ⟨oc12, od12, .func (dF "reaches_spans" za7 kV12 dc12 pm12 an12 cd12 ct12), sl12⟩) (c12 : codeIn K cd12 "reaches_spans" = true) (k12 : keepIn K (.ref f12) = true)
 (a13 : nsIn K mainGlobals "rank_of_low" = some (some (.ref f13))) (l13 : K.lookup f13 = some ⟨oc13, od13, .func (dF "rank_of_low" zbr kV13 dc13 pm13 an13 cd13 ct13), sl13⟩) (c13 : codeIn K cd13 "rank_of_low" = true) (k13 : keepIn K (.ref f13) = true)
 (a14 : nsIn K mainGlobals "rank_of_high" = some (some (.ref f14))) (l14 : K.lookup f14 = some ⟨oc14, od14, .func (dF "rank_of_high" zbd kV14 dc14 pm14 an14 cd14 ct14), sl14⟩) (c14 : codeIn K cd14 "rank_of_high" = true) (k14 : keepIn K (.ref f14) = true)
 (a15 : nsIn K mainGlobals "rank" = some (some (.ref f15))) (l15 : K.lookup f15 = some ⟨oc15, od15, .func (dF "rank" zeH kV15 dc15 pm15 an15 cd15 ct15), sl15⟩) (c15 : codeIn K cd15 "rank" = true) (k15 : keepIn K (.ref f15) = true)
 (a16 : nsIn K mainGlobals "is_under" = some (some (.ref f16))) (l16 : K.lookup f16 = some ⟨oc16, od16, .func (dF "is_under" zcm kV16 dc16 pm16 an16 cd16 ct16), sl16⟩) (c16 : codeIn K cd16 "is_under" = true) (k16 : keepIn K (.ref f16) = true)
 (a17 : nsIn K mainGlobals "greatest_of" = some (some (.ref f17))) (l17 : K.lookup f17 = some ⟨oc17, od17, .func (dF "greatest_of" zaU kV17 dc17 pm17 an17 cd17 ct17), sl17⟩) (c17 : codeIn K cd17 "greatest_of" = true) (k17 : keepIn K (.ref f17) = true)
 (a18 : nsIn K mainGlobals "greatest" = some (some (.ref f18))) (l18 : K.lookup f18 = some ⟨oc18, od18, .func (dF "greatest" zcn kV18 dc18 pm18 an18 cd18 ct18), sl18⟩) (c18 : codeIn K cd18 "greatest" = true) (k18 : keepIn K (.ref f18) = true)
 (a19 : nsIn K mainGlobals "_law_well" = some (some (.ref f19))) (l19 : K.lookup f19 = some ⟨oc19, od19, .func (dF "_law_well" zbw kV19 dc19 pm19 an19 cd19 ct19), sl19⟩) (c19 : codeIn K cd19 "_law_well" = true) (k19 : keepIn K (.ref f19) = true)
 (a20 : nsIn K mainGlobals "_law_take" = some (some (.ref f20))) (l20 : K.lookup f20 = some ⟨oc20, od20, .func (dF "_law_take" zcf kV20 dc20 pm20 an20 cd20 ct20), sl20⟩) (c20 : codeIn K cd20 "_law_take" = true) (k20 : keepIn K (.ref f20) = true)
 (a21 : nsIn K mainGlobals "_law_name" = some (some (.ref f21))) (l21 : K.lookup f21 = some ⟨oc21, od21, .func (dF "_law_name" zbK kV21 dc21 pm21 an21 cd21 ct21), sl21⟩) (c21 : codeIn K cd21 "_law_name" = true) (k21 : keepIn K (.ref f21) = true)
 (a22 : nsIn K mainGlobals "_law_fields" = some (some (.ref f22))) (l22 : K.lookup f22 = some ⟨oc22, od22, .func (dF "_law_fields" zbD kV22 dc22 pm22 an22 cd22 ct22), sl22⟩) (c22 : codeIn K cd22 "_law_fields" = true) (k22 : keepIn K (.ref f22) = true)
 (a23 : nsIn K mainGlobals "_law_base" = some (some (.ref f23))) (l23 : K.lookup f23 = some ⟨oc23, od23, .func (dF "_law_base" zck kV23 dc23 pm23 an23 cd23 ct23), sl23⟩) (c23 : codeIn K cd23 "_law_base" = true) (k23 : keepIn K (.ref f23) = true)
 (a24 : nsIn K mainGlobals "_law_grid" = some (some (.ref f24))) (l24 : K.lookup f24 = some ⟨oc24, od24, .func (dF "_law_grid" zcj kV24 dc24 pm24 an24 cd24 ct24), sl24⟩) (c24 : codeIn K cd24 "_law_grid" = true) (k24 : keepIn K (.ref f24) = true)
 (a25 : nsIn K mainGlobals "_law_span" = some (some (.ref f25))) (l25 : K.lookup f25 = some ⟨oc25, od25, .func (dF "_law_span" zcg kV25 dc25 pm25 an25 cd25 ct25), sl25⟩) (c25 : codeIn K cd25 "_law_span" = true) (k25 : keepIn K (.ref f25) = true)
 (a26 : nsIn K mainGlobals "_law_wish" = some (some (.ref f26))) (l26 : K.lookup f26 = some ⟨oc26, od26, .func (dF "_law_wish" zce kV26 dc26 pm26 an26 cd26 ct26), sl26⟩) (c26 : codeIn K cd26 "_law_wish" = true) (k26 : keepIn K (.ref f26) = true)
 (a27 : nsIn K mainGlobals "_law_wishes" = some (some (.ref f27))) (l27 : K.lookup f27 = some ⟨oc27, od27, .func (dF "_law_wishes" zbC kV27 dc27 pm27 an27 cd27 ct27), sl27⟩) (c27 : codeIn K cd27 "_law_wishes" = true) (k27 : keepIn K (.ref f27) = true)
 (a28 : nsIn K mainGlobals "_law_part" = some (some (.ref f28))) (l28 : K.lookup f28 = some ⟨oc28, od28, .func (dF "_law_part" zci kV28 dc28 pm28 an28 cd28 ct28), sl28⟩) (c28 : codeIn K cd28 "_law_part" = true) (k28 : keepIn K (.ref f28) = true)
 (a29 : nsIn K mainGlobals "_law_covers" = some (some (.ref f29))) (l29 : K.lookup f29 = some ⟨oc29, od29, .func (dF "_law_covers" zbE kV29 dc29 pm29 an29 cd29 ct29), sl29⟩) (c29 : codeIn K cd29 "_law_covers" = true) (k29 : keepIn K (.ref f29) = true)
 (a30 : nsIn K mainGlobals "_law_rank" = some (some (.ref f30))) (l30 : K.lookup f30 = some ⟨oc30, od30, .func (dF "_law_rank" zch kV30 dc30 pm30 an30 cd30 ct30), sl30⟩) (c30 : codeIn K cd30 "_law_rank" = true) (k30 : keepIn K (.ref f30) = true)
 (a31 : nsIn K mainGlobals "_law_greatest" = some (some (.ref f31))) (l31 : K.lookup f31 = some ⟨oc31, od31, .func (dF "_law_greatest" zaH kV31 dc31 pm31 an31 cd31 ct31), sl31⟩) (c31 : codeIn K cd31 "_law_greatest" = true) (k31 : keepIn K (.ref f31) = true)
 (a32 : nsIn K mainGlobals "_law_alike" = some (some (.ref f32))) (l32 : K.lookup f32 = some ⟨oc32, od32, .func (dF "_law_alike" zbx kV32 dc32 pm32 an32 cd32 ct32), sl32⟩) (c32 : codeIn K cd32 "_law_alike" = true) (k32 : keepIn K (.ref f32) = true)
 (a33 : nsIn K mainGlobals "law" = some (some (.ref f33))) (l33 : K.lookup f33 = some ⟨oc33, od33, .func (dF "law" zfs kV33 dc33 pm33 an33 cd33 ct33), sl33⟩) (c33 : codeIn K cd33 "law" = true) (k33 : keepIn K (.ref f33) = true)
 {t_MOST_LETTERS : Tok} (e_MOST_LETTERS : nsIn K mainGlobals "MOST_LETTERS" = some (some (.int 8 t_MOST_LETTERS)))
 (z_len : nsIn K mainGlobals "len" = some none)
 (z_range : nsIn K mainGlobals "range" = some none)
 (z_isinstance : nsIn K mainGlobals "isinstance" = some none)
 (z_int : nsIn K mainGlobals "int" = some none)
 (z_bool : nsIn K mainGlobals "bool" = some none)
 (z_tuple : nsIn K mainGlobals "tuple" = some none)
 (z_list : nsIn K mainGlobals "list" = some none)
 (z_max : nsIn K mainGlobals "max" = some none)
 (z_min : nsIn K mainGlobals "min" = some none)
 (z_all : nsIn K mainGlobals "all" = some none)
 (z_zip : nsIn K mainGlobals "zip" = some none)
 (z_str : nsIn K mainGlobals "str" = some none)
 (z_dict : nsIn K mainGlobals "dict" = some none)
 (z_sorted : nsIn K mainGlobals "sorted" = some none)
 (z_set : nsIn K mainGlobals "set" = some none)
 (z_any : nsIn K mainGlobals "any" = some none)
 (z_sum : nsIn K mainGlobals "sum" = some none)
 (z_enumerate : nsIn K mainGlobals "enumerate" = some none)
 (z_repr : nsIn K mainGlobals "repr" = some none)
 (z_ord : nsIn K mainGlobals "ord" = some none)
 (z_chr : nsIn K mainGlobals "chr" = some none)
 (z_abs : nsIn K mainGlobals "abs" = some none)
 (z_reversed : nsIn K mainGlobals "reversed" = some none)
 : ∃ fd : FuncData, (∀ (s : Shared) (v : Value), BindsTo s fd ⟨[v], []⟩ [("script", v)]) ∧ ∀ base : Heap, K.In base → base.Ns mainGlobals mg → FnOk l.prog w K mg base CX0 12 fa fd ["script"] (ziq K) := by
 have e := hfa.symm.trans (PySem.W.mg_of X G a33)
 cases e
 have B : Bl mg := ⟨mg_none_of X G z_len, mg_none_of X G z_range, mg_none_of X G z_isinstance, mg_none_of X G z_int, mg_none_of X G z_bool, mg_none_of X G z_tuple, mg_none_of X G z_list, mg_none_of X G z_max, mg_none_of X G z_min, mg_none_of X G z_all, mg_none_of X G z_zip, mg_none_of X G z_str, mg_none_of X G z_dict, mg_none_of X G z_sorted, mg_none_of X G z_set, mg_none_of X G z_any, mg_none_of X G z_sum, mg_none_of X G z_enumerate, mg_none_of X G z_repr, mg_none_of X G z_ord, mg_none_of X G z_chr, mg_none_of X G z_abs, mg_none_of X G z_reversed⟩
 refine ⟨PySem.W.fnOf "law" "law" (zbA zfs) (zbp zfs) (zag zfs) .none kV33 dc33 pm33 an33 cd33 ct33, fun s v => .of_eq rfl, fun base _ _ => ?_⟩
 have CMOST_LETTERS := mg_of X G e_MOST_LETTERS
 have F1 := zaE (st := zcl) l1 c1 k1
 have b1 := bn1 (p0 := "thing") F1
 have G_is_whole : FnH l.prog w K mg base 1 "is_whole" ["thing"] (zfe K) := ⟨_, _, zfE B CMOST_LETTERS F1 , b1, k1, mg_of X G a1⟩
 have F2 := zaE (st := zdj) l2 c2 k2
 have b2 := bn1 (p0 := "thing") F2
 have G_is_end : FnH l.prog w K mg base 2 "is_end" ["thing"] (zjv K) := ⟨_, _, zhy B CMOST_LETTERS F2 G_is_whole, b2, k2, mg_of X G a2⟩
 have F3 := zaE (st := zcD) l3 c3 k3
 have b3 := bn1 (p0 := "thing") F3
 have G_is_span : FnH l.prog w K mg base 3 "is_span" ["thing"] (zd2 K) := ⟨_, _, zgF B CMOST_LETTERS F3 G_is_end, b3, k3, mg_of X G a3⟩
 have F4 := zaE (st := zbc) l4 c4 k4
 have b4 := bn2 (p0 := "one") (p1 := "other") F4
 have G_span_reaches : FnH l.prog w K mg base 1 "span_reaches" ["one", "other"] (zfi) := ⟨_, _, zdz B CMOST_LETTERS F4 , b4, k4, mg_of X G a4⟩
 have F5 := zaE (st := zbL) l5 c5 k5
 have b5 := bn1 (p0 := "thing") F5
 have G_is_field : FnH l.prog w K mg base 1 "is_field" ["thing"] (zfl) := ⟨_, _, zfG B CMOST_LETTERS F5 , b5, k5, mg_of X G a5⟩
 have F6 := zaE (st := zbe) l6 c6 k6
 have b6 := bn1 (p0 := "thing") F6
 have G_is_wish_part : FnH l.prog w K mg base 4 "is_wish_part" ["thing"] (zcP) := ⟨_, _, zdC B CMOST_LETTERS F6 G_is_field G_is_span, b6, k6, mg_of X G a6⟩
 have F7 := zaE (st := zaR) l7 c7 k7
 have b7 := bn1 (p0 := "parts") F7
 have G_fields_ascend : FnH l.prog w K mg base 1 "fields_ascend" ["parts"] (zd4) := ⟨_, _, zdh B CMOST_LETTERS F7 , b7, k7, mg_of X G a7⟩
 have F8 := zaE (st := zb4) l8 c8 k8
 have b8 := bn1 (p0 := "thing") F8
 have G_is_wish : FnH l.prog w K mg base 5 "is_wish" ["thing"] (zd1) := ⟨_, _, zgE B CMOST_LETTERS F8 G_fields_ascend G_is_wish_part, b8, k8, mg_of X G a8⟩
 have F9 := zaE (st := zbg) l9 c9 k9
 have b9 := bn1 (p0 := "thing") F9
 have G_are_wishes : FnH l.prog w K mg base 6 "are_wishes" ["thing"] (zfm) := ⟨_, _, zei B CMOST_LETTERS F9 G_is_wish, b9, k9, mg_of X G a9⟩
 have F10 := zaE (st := zbf) l10 c10 k10
 have b10 := bn1 (p0 := "thing") F10
 have G_check_wishes : FnH l.prog w K mg base 7 "check_wishes" ["thing"] (zd3) := ⟨_, _, zdD B CMOST_LETTERS F10 G_are_wishes, b10, k10, mg_of X G a10⟩
 have F11 := zaE (st := zaO) l11 c11 k11
 have b11 := bn1 (p0 := "wish") F11
 have G_spans_by_field : FnH l.prog w K mg base 1 "spans_by_field" ["wish"] (zdo) := ⟨_, _, zcV B CMOST_LETTERS F11 , b11, k11, mg_of X G a11⟩
 have F12 := zaE (st := za7) l12 c12 k12
 have b12 := bn2 (p0 := "one") (p1 := "other_spans") F12
 have G_reaches_spans : FnH l.prog w K mg base 2 "reaches_spans" ["one", "other_spans"] (zdp) := ⟨_, _, zdg B CMOST_LETTERS F12 G_span_reaches, b12, k12, mg_of X G a12⟩
 have F13 := zaE (st := zbr) l13 c13 k13
 have b13 := bn1 (p0 := "low") F13
 have G_rank_of_low : FnH l.prog w K mg base 1 "rank_of_low" ["low"] (zg1) := ⟨_, _, zdM B CMOST_LETTERS F13 , b13, k13, mg_of X G a13⟩
 have F14 := zaE (st := zbd) l14 c14 k14
 have b14 := bn1 (p0 := "high") F14
 have G_rank_of_high : FnH l.prog w K mg base 1 "rank_of_high" ["high"] (zfj) := ⟨_, _, zdA B CMOST_LETTERS F14 , b14, k14, mg_of X G a14⟩
 have F15 := zaE (st := zeH) l15 c15 k15
 have b15 := bn1 (p0 := "wish") F15
 have G_rank : FnH l.prog w K mg base 2 "rank" ["wish"] (zg0 K) := ⟨_, _, zjM B CMOST_LETTERS F15 G_rank_of_low G_rank_of_high, b15, k15, mg_of X G a15⟩
 have F16 := zaE (st := zcm) l16 c16 k16
 have b16 := bn2 (p0 := "wish") (p1 := "others") F16
 have G_is_under : FnH l.prog w K mg base 3 "is_under" ["wish", "others"] (zff) := ⟨_, _, zfF B CMOST_LETTERS F16 G_spans_by_field G_reaches_spans, b16, k16, mg_of X G a16⟩
 have F17 := zaE (st := zaU) l17 c17 k17
 have b17 := bn1 (p0 := "wishes") F17
 have G_greatest_of : FnH l.prog w K mg base 4 "greatest_of" ["wishes"] (zfg) := ⟨_, _, zdN B CMOST_LETTERS F17 G_is_under, b17, k17, mg_of X G a17⟩
 have F18 := zaE (st := zcn) l18 c18 k18
 have b18 := bn1 (p0 := "wishes") F18
 have G_greatest : FnH l.prog w K mg base 8 "greatest" ["wishes"] (zgv) := ⟨_, _, zfH B CMOST_LETTERS F18 G_check_wishes G_greatest_of G_rank, b18, k18, mg_of X G a18⟩
 have F19 := zaE (st := zbw) l19 c19 k19
 have b19 := bn1 (p0 := "script") F19
 have G_law_well : FnH l.prog w K mg base 1 "_law_well" ["script"] (zgY K) := ⟨_, _, zfw B CMOST_LETTERS F19 , b19, k19, mg_of X G a19⟩
 have F20 := zaE (st := zcf) l20 c20 k20
 have b20 := bn2 (p0 := "well") (p1 := "many") F20
 have G_law_take : FnH l.prog w K mg base 1 "_law_take" ["well", "many"] (zgZ) := ⟨_, _, zfx B CMOST_LETTERS F20 , b20, k20, mg_of X G a20⟩
 have F21 := zaE (st := zbK) l21 c21 k21
 have b21 := bn2 (p0 := "well") (p1 := "most") F21
 have G_law_name : FnH l.prog w K mg base 2 "_law_name" ["well", "most"] (zg3) := ⟨_, _, zfB B CMOST_LETTERS F21 G_law_take, b21, k21, mg_of X G a21⟩
 have F22 := zaE (st := zbD) l22 c22 k22
 have b22 := bn2 (p0 := "well") (p1 := "many") F22
 have G_law_fields : FnH l.prog w K mg base 3 "_law_fields" ["well", "many"] (zdq) := ⟨_, _, zeg B CMOST_LETTERS F22 G_law_name G_law_take, b22, k22, mg_of X G a22⟩
 have F23 := zaE (st := zck) l23 c23 k23
 have b23 := bn1 (p0 := "well") F23
 have G_law_base : FnH l.prog w K mg base 2 "_law_base" ["well"] (zg6) := ⟨_, _, zfD B CMOST_LETTERS F23 G_law_take, b23, k23, mg_of X G a23⟩
 have F24 := zaE (st := zcj) l24 c24 k24
 have b24 := bn1 (p0 := "well") F24
 have G_law_grid : FnH l.prog w K mg base 3 "_law_grid" ["well"] (zg5) := ⟨_, _, zfC B CMOST_LETTERS F24 G_law_take G_law_base, b24, k24, mg_of X G a24⟩
 have F25 := zaE (st := zcg) l25 c25 k25
 have b25 := bn3 (p0 := "well") (p1 := "grid") (p2 := "wide") F25
 have G_law_span : FnH l.prog w K mg base 2 "_law_span" ["well", "grid", "wide"] (zfh) := ⟨_, _, zfy B CMOST_LETTERS F25 G_law_take, b25, k25, mg_of X G a25⟩
 have F26 := zaE (st := zce) l26 c26 k26
 have b26 := bn4 (p0 := "well") (p1 := "names") (p2 := "grid") (p3 := "wide") F26
 have G_law_wish : FnH l.prog w K mg base 3 "_law_wish" ["well", "names", "grid", "wide"] (zfd) := ⟨_, _, zfv B CMOST_LETTERS F26 G_law_take G_law_span, b26, k26, mg_of X G a26⟩
 have F27 := zaE (st := zbC) l27 c27 k27
 have b27 := bn5 (p0 := "well") (p1 := "names") (p2 := "grid") (p3 := "wide") (p4 := "many") F27
 have G_law_wishes : FnH l.prog w K mg base 4 "_law_wishes" ["well", "names", "grid", "wide", "many"] (zdn) := ⟨_, _, zef B CMOST_LETTERS F27 G_law_take G_law_wish, b27, k27, mg_of X G a27⟩
 have F28 := zaE (st := zci) l28 c28 k28
 have b28 := bn2 (p0 := "wish") (p1 := "field") F28
 have G_law_part : FnH l.prog w K mg base 1 "_law_part" ["wish", "field"] (zg2) := ⟨_, _, zfA B CMOST_LETTERS F28 , b28, k28, mg_of X G a28⟩
 have F29 := zaE (st := zbE) l29 c29 k29
 have b29 := bn2 (p0 := "one") (p1 := "other") F29
 have G_law_covers : FnH l.prog w K mg base 2 "_law_covers" ["one", "other"] (zg4) := ⟨_, _, zeh B CMOST_LETTERS F29 G_law_part, b29, k29, mg_of X G a29⟩
 have F30 := zaE (st := zch) l30 c30 k30
 have b30 := bn1 (p0 := "wish") F30
 have G_law_rank : FnH l.prog w K mg base 1 "_law_rank" ["wish"] (zfk K) := ⟨_, _, zfz B CMOST_LETTERS F30 , b30, k30, mg_of X G a30⟩
 have F31 := zaE (st := zaH) l31 c31 k31
 have b31 := bn1 (p0 := "wishes") F31
 have G_law_greatest : FnH l.prog w K mg base 4 "_law_greatest" ["wishes"] (zgv) := ⟨_, _, zdB B CMOST_LETTERS F31 G_law_rank G_law_covers, b31, k31, mg_of X G a31⟩
 have F32 := zaE (st := zbx) l32 c32 k32
 have b32 := bn2 (p0 := "found") (p1 := "due") F32
 have G_law_alike : FnH l.prog w K mg base 11 "_law_alike" ["found", "due"] (zga 9 zd0) := ⟨_, _, zeS B CMOST_LETTERS F32  (PySem.W.mg_of X G a32), b32, k32, mg_of X G a32⟩
 have F33 := zaE (st := zfs) l33 c33 k33
 exact zkz B CMOST_LETTERS F33 G_law_well G_law_fields G_law_grid G_law_wishes G_law_greatest G_greatest G_law_alike G_law_take
theorem walk {l : PySem.W.OpenLaw} {q : Program} {loose : List Str} {XP : (Str → Option Value) → Heap → Prop} {YP : World → Heap → Prop} {d : DefRec} {K : Params → PySem.W.Frag} (hn : l.most = some 63) (hdf : d.params.defaults = [])
 (hY : ∀ (w : World) (h : Heap), YP w h → (K w.params).In h)
 (F : ∀ (w : World) (mg : Str → Option Value) (fa : Addr) (h : Heap), (K w.params).In h → h.Ns mainGlobals mg → mg d.name = some (.ref fa) →
  ∃ fd : FuncData, (∀ (s : Shared) (u : Value), BindsTo s fd ⟨[u], []⟩ [("script", u)]) ∧ ∀ base : Heap, (K w.params).In base → base.Ns mainGlobals mg → FnOk l.prog w (K w.params) mg base CX0 12 fa fd ["script"] (ziq (K w.params))) :
 PySem.W.WalkO q loose XP YP l.row.toRowW d [] (fun f vs => PySem.call f vs) :=
 L2.walk_of (n := 63) (k := 12) (x := "script") (CX := fun _ => CX0) (sp := fun w => ziq (K w.params)) hn (by decide) hdf ⟨rfl, by decide, by decide, rfl⟩ hY F (fun _ _ a ns hl _ hS => ⟨a, ns, rfl, hS, hl, fun _ => rfl⟩) fun _ _ _ _ _ z => z
end K10
namespace PySem.W.Fast
def tw5296639681893137440 := 0
def tw14466137665260715136 := 0
def tw6764525712082378912 := 0
def tw16542276284261781120 := 0
def tw3278479510745176864 := 0
def tw5221421665905800353 := 0
def tw1924065981026483553 := 0
def tw523793669878397313 := 0
def tw2263723998281550305 := 0
def tw10713672774110002721 := 0
def tw4176563421171617377 := 0
def tw18394692120052788993 := 0
def tw708896871178168097 := 0
def tw5775089604802710369 := 0
def tw8620718669455677409 := 0
def tw14575085210652382210 := 0
def tw5562034844939839490 := 0
def tw8334539610437314626 := 0
def tw9752027627043273826 := 0
def tw6690967718859142306 := 0
def tw18144156109699735778 := 0
def tw2780160489426473314 := 0
def tw2430309948648469890 := 0
def tw7553318687891394050 := 0
def tw3380733775638797475 := 0
def tw4964046982349489891 := 0
def tw13944822633637840739 := 0
def tw18341458014538653539 := 0
def tw14803858285005378564 := 0
def tw8783605769675110436 := 0
def tw6934044534610085476 := 0
def tw2689034248716824869 := 0
def tw17446805353520025989 := 0
def tw16674797504143201733 := 0
def tw13936250302682831301 := 0
def tw7490468879929206245 := 0
def tw16443455161857762981 := 0
def tw13054779385477443301 := 0
def tw11454876074783350533 := 0
def tw6165972287447219045 := 0
def tw16726608847957770310 := 0
def tw10808092903152064742 := 0
def tw12606945972283401478 := 0
def tw16175863220312458694 := 0
def tw16162212934150410950 := 0
def tw12254917597142812390 := 0
def tw15727597697920350982 := 0
def tw15685447859413915430 := 0
def tw3118447488929310534 := 0
def tw8238781201335900006 := 0
def tw5325082356786686023 := 0
def tw2849332606913265863 := 0
def tw8899452569218882951 := 0
def tw14694503547163056551 := 0
def tw13980174833753327015 := 0
def tw9445704080916690471 := 0
def tw15029136917233401479 := 0
def tw17679542132339988231 := 0
def tw1835090146704095015 := 0
def tw15962009084314967943 := 0
def tw12909874174312175495 := 0
def tw3746349582988121031 := 0
def tw15175158989947364327 := 0
def tw9092055765267142696 := 0
def tw5238080890442602792 := 0
def tw394695694784339368 := 0
def tw1356786268745217672 := 0
def tw1850131359362913960 := 0
def tw9544864923285757832 := 0
def tw2888970066359119017 := 0
def tw12697961853542275689 := 0
def tw14510328548045382505 := 0
def tw13805726403086014441 := 0
def tw16211135087912641546 := 0
def tw16761364039070854218 := 0
def tw4113610472668434570 := 0
def tw10510897723509441834 := 0
def tw2468600555312811434 := 0
def tw1710443462128638602 := 0
def tw2805374738299157130 := 0
def tw3986207599599747818 := 0
def tw3904346577474821227 := 0
def tw4014700746107010251 := 0
def tw8366646953220901323 := 0
def tw3232967634740761035 := 0
def tw14439840336416938891 := 0
def tw14964570376557900172 := 0
def tw9707696795674988268 := 0
def tw27008009388336108 := 0
def tw11121610065945200941 := 0
def tw10776453324622344557 := 0
def tw12381289664315487629 := 0
def tw15951993365072381325 := 0
def tw14546450666750927405 := 0
def tw16863240086667223885 := 0
def tw6924855335950770510 := 0
def tw12932277829292725582 := 0
def tw493521566592808366 := 0
def tw18076014676245905934 := 0
def tw15424503630871990830 := 0
def tw4120441155790714766 := 0
def tw17424722458662096814 := 0
def tw3429103754837937423 := 0
def tw6353903745716536623 := 0
def tw11226092389043725711 := 0
def tw14824299522384056783 := 0
def tw15193361320537448111 := 0
def tw6793190633329700016 := 0
def tw7092331434171428080 := 0
def tw6583874013403539696 := 0
def tw5842754396299544880 := 0
def tw7998319193879092656 := 0
def tw4604846769036559088 := 0
def tw1871391893273415600 := 0
def tw4531031760146808017 := 0
def tw11002283950907925937 := 0
def tw15428619768805116369 := 0
def tw6057322198744339121 := 0
def tw15540065693130069745 := 0
def tw908481263735847665 := 0
def tw1269062801126292241 := 0
def tw6209058258255478769 := 0
def tw4910737591396270226 := 0
def tw9996446531303515442 := 0
def tw4712877351031528818 := 0
def tw12305686255974854098 := 0
def tw333947209139928754 := 0
def tw1581192179724825362 := 0
def tw6315369425896051731 := 0
def tw15047598319341434067 := 0
def tw16687943013706195795 := 0
def tw4302379150588599316 := 0
def tw7876032815008145940 := 0
def tw17057586370900892244 := 0
def tw6075821047966930580 := 0
def tw12526640891303236308 := 0
def tw13468660533950005972 := 0
def tw11610264901426080500 := 0
def tw7407279689147199573 := 0
def tw8078449025067981013 := 0
def tw7499326461812637365 := 0
def tw14724566113579118421 := 0
def tw6574893407659988981 := 0
def tw17088406468816923734 := 0
def tw8546466334479977654 := 0
def tw3333760066242718134 := 0
def tw7218441732980757174 := 0
def tw7619637534837039830 := 0
def tw6497519783039786998 := 0
def tw525841463645711447 := 0
def tw9571461836447179127 := 0
def tw12869986178364974839 := 0
def tw2971313442408819543 := 0
def tw13844792580726710328 := 0
def tw951465441286711640 := 0
def tw9439831454655428984 := 0
def tw17072665358424855000 := 0
def tw15267107210315011736 := 0
def tw10165126379227360952 := 0
def tw7946803231937519352 := 0
def tw5994517348339574680 := 0
def tw616063790981266809 := 0
def tw5413282362642118041 := 0
def tw9084957072483974649 := 0
def tw12708727252058616345 := 0
def tw17441816297368029977 := 0
def tw16813735209770685433 := 0
def tw12601081893372920825 := 0
def tw13290225044339294330 := 0
def tw14044281110027290970 := 0
def tw7580830880799174234 := 0
def tw4177128532007757434 := 0
def tw5355525489882688442 := 0
def tw991032836524173339 := 0
def tw15569154340311508059 := 0
def tw10112925980851977595 := 0
def tw8857010389957239291 := 0
def tw14133960976078242331 := 0
def tw7680727046636626491 := 0
def tw334854671232538171 := 0
def tw913578193778427483 := 0
def tw16604307788691651419 := 0
def tw6157417325189884859 := 0
def tw8213184464285643804 := 0
def tw14244108524411562108 := 0
def tw13141865257068950748 := 0
def tw17706804970840262044 := 0
def tw16828715692151192092 := 0
def tw16738823743707552316 := 0
def tw14039009676483740284 := 0
def tw323265991631082364 := 0
def tw15044772986168262588 := 0
def tw11492957607262730204 := 0
def tw989766367452238844 := 0
def tw7255940343695215612 := 0
def tw1437681357212171517 := 0
def tw877478221975584093 := 0
def tw1156694075418873950 := 0
def tw9986339458055982302 := 0
def tw1674511797414148478 := 0
def tw14864590828839019038 := 0
def tw9893477015831403070 := 0
def tw7428310560610006654 := 0
def tw3216638614285693630 := 0
def tw6970635459338455838 := 0
def tw11929306495471185758 := 0
def tw13860802531755229054 := 0
def tw14170263082805716926 := 0
def tw16753746670756572255 := 0
def tw3897541913273977023 := 0
def tw7563950536190350559 := 0
def tw9595191524983563551 := 0
def tw3752133687654554943 := 0
def tw9477318066725810015 := 0
def tw619177249210411811 := 0
def tw16350983646985154157 := 0
def tw12090905887122067090 := 0
def tw9492381321550174867 := 0
def tw4772371609417410740 := 0
def tw1749026919475673367 := 0
def tw7975819405319292283 := 0
def tw8098392548512025023 := 0
end PySem.W.Fast
open PySem PySem.W PyProof.Rows
set_option maxRecDepth 100000 in
set_option maxHeartbeats 0 in
theorem PySem.Challenge.cw_newsways_k10_the_greatest_holds : PySem.Challenge.rw_newsways_k10_the_greatest.Holds := by
 w_on; o_law; k_head; (case hw => w_witness2)
 k_fill
 refine K10.walk (l := PySem.Challenge.rw_newsways_k10_the_greatest) rfl rfl (fun w h Y => PySem.W.kIn_of Y) ?F
 case F =>
  intro w mg fa h KX G hmg
  refine' K10.all_mk KX G hmg ?a1 ?l1 ?c1 ?k1 ?a2 ?l2 ?c2 ?k2 ?a3 ?l3 ?c3 ?k3 ?a4 ?l4 ?c4 ?k4 ?a5 ?l5 ?c5 ?k5 ?a6 ?l6 ?c6 ?k6 ?a7 ?l7 ?c7 ?k7 ?a8 ?l8 ?c8 ?k8 ?a9 ?l9 ?c9 ?k9 ?a10 ?l10 ?c10 ?k10 ?a11 ?l11 ?c11 ?k11 ?a12 ?l12 ?c12 ?k12 ?a13 ?l13 ?c13 ?k13 ?a14 ?l14 ?c14 ?k14 ?a15 ?l15 ?c15 ?k15 ?a16 ?l16 ?c16 ?k16 ?a17 ?l17 ?c17 ?k17 ?a18 ?l18 ?c18 ?k18 ?a19 ?l19 ?c19 ?k19 ?a20 ?l20 ?c20 ?k20 ?a21 ?l21 ?c21 ?k21 ?a22 ?l22 ?c22 ?k22 ?a23 ?l23 ?c23 ?k23 ?a24 ?l24 ?c24 ?k24 ?a25 ?l25 ?c25 ?k25 ?a26 ?l26 ?c26 ?k26 ?a27 ?l27 ?c27 ?k27 ?a28 ?l28 ?c28 ?k28 ?a29 ?l29 ?c29 ?k29 ?a30 ?l30 ?c30 ?k30 ?a31 ?l31 ?c31 ?k31 ?a32 ?l32 ?c32 ?k32 ?a33 ?l33 ?c33 ?k33 ?e_MOST_LETTERS  ?z_len ?z_range ?z_isinstance ?z_int ?z_bool ?z_tuple ?z_list ?z_max ?z_min ?z_all ?z_zip ?z_str ?z_dict ?z_sorted ?z_set ?z_any ?z_sum ?z_enumerate ?z_repr ?z_ord ?z_chr ?z_abs ?z_reversed
  (case a1 => k_is); (case l1 => k_is); (case c1 => k_is); (case k1 => k_is)
  (case a2 => k_is); (case l2 => k_is); (case c2 => k_is); (case k2 => k_is)
  (case a3 => k_is); (case l3 => k_is); (case c3 => k_is); (case k3 => k_is)
  (case a4 => k_is); (case l4 => k_is); (case c4 => k_is); (case k4 => k_is)
  (case a5 => k_is); (case l5 => k_is); (case c5 => k_is); (case k5 => k_is)
  (case a6 => k_is); (case l6 => k_is); (case c6 => k_is); (case k6 => k_is)
  (case a7 => k_is); (case l7 => k_is); (case c7 => k_is); (case k7 => k_is)
  (case a8 => k_is); (case l8 => k_is); (case c8 => k_is); (case k8 => k_is)
  (case a9 => k_is); (case l9 => k_is); (case c9 => k_is); (case k9 => k_is)
  (case a10 => k_is); (case l10 => k_is); (case c10 => k_is); (case k10 => k_is)
  (case a11 => k_is); (case l11 => k_is); (case c11 => k_is); (case k11 => k_is)
  (case a12 => k_is); (case l12 => k_is); (case c12 => k_is); (case k12 => k_is)
  (case a13 => k_is); (case l13 => k_is); (case c13 => k_is); (case k13 => k_is)
  (case a14 => k_is); (case l14 => k_is); (case c14 => k_is); (case k14 => k_is)
  (case a15 => k_is); (case l15 => k_is); (case c15 => k_is); (case k15 => k_is)
  (case a16 => k_is); (case l16 => k_is); (case c16 => k_is); (case k16 => k_is)
  (case a17 => k_is); (case l17 => k_is); (case c17 => k_is); (case k17 => k_is)
  (case a18 => k_is); (case l18 => k_is); (case c18 => k_is); (case k18 => k_is)
  (case a19 => k_is); (case l19 => k_is); (case c19 => k_is); (case k19 => k_is)
  (case a20 => k_is); (case l20 => k_is); (case c20 => k_is); (case k20 => k_is)
  (case a21 => k_is); (case l21 => k_is); (case c21 => k_is); (case k21 => k_is)
  (case a22 => k_is); (case l22 => k_is); (case c22 => k_is); (case k22 => k_is)
  (case a23 => k_is); (case l23 => k_is); (case c23 => k_is); (case k23 => k_is)
  (case a24 => k_is); (case l24 => k_is); (case c24 => k_is); (case k24 => k_is)
  (case a25 => k_is); (case l25 => k_is); (case c25 => k_is); (case k25 => k_is)
  (case a26 => k_is); (case l26 => k_is); (case c26 => k_is); (case k26 => k_is)
  (case a27 => k_is); (case l27 => k_is); (case c27 => k_is); (case k27 => k_is)
  (case a28 => k_is); (case l28 => k_is); (case c28 => k_is); (case k28 => k_is)
  (case a29 => k_is); (case l29 => k_is); (case c29 => k_is); (case k29 => k_is)
  (case a30 => k_is); (case l30 => k_is); (case c30 => k_is); (case k30 => k_is)
  (case a31 => k_is); (case l31 => k_is); (case c31 => k_is); (case k31 => k_is)
  (case a32 => k_is); (case l32 => k_is); (case c32 => k_is); (case k32 => k_is)
  (case a33 => k_is); (case l33 => k_is); (case c33 => k_is); (case k33 => k_is)
  (case e_MOST_LETTERS => k_is)
  (case z_len => k_is); (case z_range => k_is); (case z_isinstance => k_is); (case z_int => k_is); (case z_bool => k_is); (case z_tuple => k_is); (case z_list => k_is); (case z_max => k_is); (case z_min => k_is); (case z_all => k_is); (case z_zip => k_is); (case z_str => k_is); (case z_dict => k_is); (case z_sorted => k_is); (case z_set => k_is); (case z_any => k_is); (case z_sum => k_is); (case z_enumerate => k_is); (case z_repr => k_is); (case z_ord => k_is); (case z_chr => k_is); (case z_abs => k_is); (case z_reversed => k_is)
