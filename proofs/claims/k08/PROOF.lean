import PyProof.Rows.All
import Wide.All
import OpenK.AllK
import Wide.FinOn
import Lean
import PyProof.EqAt
import PyProof.EqKinds
import PyProof.TupleCall
import PyProof.NeKinds
import KE.IntBitsLaws
import PyProof.StrWalks
import PyProof.FString5
import PyProof.ConsumeWalk
import PyProof.DictCompW
import PyProof.ZipIter
import PyProof.AttrMissHeap
import PyProof.ListNew
import PyProof.DictUpdate
import PyProof.EnumMake
import PyProof.Rows.SetFrom
import KE.KRevSl
import PyProof.FitsBits
import PyProof.Rows.SortStr
import PyProof.StrBlockL
import PyProof.JoinWalk
import PyProof.Rows.StrMeet
import PyProof.DictWalks
import KE.KSortTup
import KE.KSortKey
import PyProof.Rows.SortRuns
import PyProof.StationsW
import PyProof.RulesAs
import OpenK.KRaise
import PyProof.ExcInit
import PyProof.ExcBaseAll.ValueError
import PyProof.PassesOwn
import PyProof.NsDelKeeps
import PyProof.Rows.Catch
import PyProof.FString
import PyProof.Rows.FStr
import PyProof.ExcArgs
import PyProof.ExcAttrAll.ValueError
import PyProof.Rows.SortWalk
import PyProof.ListRange
import PyProof.ReprRoads
import PyProof.ReprText
import PyProof.CallFns
import KE.KEqDict
import PyProof.AutoListH
import PySem.Challenge.RW_newsways_k08_wishes_in_order
set_option Elab.async false
set_option linter.all false
set_option maxRecDepth 100000
namespace L2
open PySem PySem.Spec PyProof.Rows
abbrev Key := Sum Int Str
def zjX : Key → Value → Bool
 | .inl k, v => Value.isInt k v
 | .inr x, v => Value.isStrOf x v
def keyH (w : World) : Key → Int
 | .inl k => hashInt k
 | .inr x => hashStr w x
theorem zaM : ∀ {k : Key} {v : Value}, zjX k v = true → (∃ i t, k = Sum.inl i ∧ v = Value.int i t) ∨ (∃ x t, k = Sum.inr x ∧ v = Value.str x t)
 | .inl i, v, h => by
  obtain ⟨t, e⟩ := Value.isInt_shape (k := i) (v := v) h
  exact .inl ⟨i, t, rfl, e⟩
 | .inr x, v, h => by
  obtain ⟨t, e⟩ := Value.isStrOf_shape (x := x) (v := v) h
  exact .inr ⟨x, t, rfl, e⟩
theorem zjW (a b : Int) : decide ((Sum.inl a : Key) = Sum.inl b) = (a == b) := by
 by_cases e : a = b
 · subst e; simp
 · have h : ¬ (Sum.inl a : Key) = Sum.inl b := fun q => e (Sum.inl.inj q)
   rw [decide_eq_false h]
   exact (beq_eq_false_iff_ne.mpr e).symm
theorem zjT (a b : Str) : decide ((Sum.inr a : Key) = Sum.inr b) = decide (a = b) := by
 by_cases e : a = b
 · subst e; simp
 · have h : ¬ (Sum.inr a : Key) = Sum.inr b := fun q => e (Sum.inr.inj q)
   rw [decide_eq_false h, decide_eq_false e]
theorem zjV (a : Int) (b : Str) : decide ((Sum.inl a : Key) = Sum.inr b) = false := decide_eq_false (fun q => nomatch q)
theorem zjU (a : Str) (b : Int) : decide ((Sum.inr a : Key) = Sum.inl b) = false := decide_eq_false (fun q => nomatch q)
def zd9 (prog : Program) (w : World) : PySem.KeyKind prog w Key where
 is := zjX
 hash := keyH w
 inj := fun v a b ha hb => by
  rcases zaM ha with ⟨i, t, rfl, rfl⟩ | ⟨x, t, rfl, rfl⟩
  · rcases zaM hb with ⟨j, u, rfl, e⟩ | ⟨y, u, rfl, e⟩
    · injection e with e1 _; rw [e1]
    · exact nomatch e
  · rcases zaM hb with ⟨j, u, rfl, e⟩ | ⟨y, u, rfl, e⟩
    · exact nomatch e
    · injection e with e1 _; rw [e1]
 byValue := fun k v h => by
  rcases zaM h with ⟨i, t, rfl, rfl⟩ | ⟨x, t, rfl, rfl⟩ <;> rfl
 pyHash := fun hv h => by
  rcases zaM hv with ⟨i, t, rfl, rfl⟩ | ⟨x, t, rfl, rfl⟩
  · exact wpAny_pyHash_int h
  · exact wpAny_pyHash_str h
 eqBool := fun hu hv h => by
  rcases zaM hu with ⟨i, t, rfl, rfl⟩ | ⟨x, t, rfl, rfl⟩
  · rcases zaM hv with ⟨j, u, rfl, rfl⟩ | ⟨y, u, rfl, rfl⟩
    · rw [zjW] at h; exact wpAny_eqBool_int h
    · rw [zjV] at h; exact SeqAt.EqAt.int_str i t y u _ _ _ _ h
  · rcases zaM hv with ⟨j, u, rfl, rfl⟩ | ⟨y, u, rfl, rfl⟩
    · rw [zjU] at h; exact SeqAt.EqAt.str_int x t j u _ _ _ _ h
    · rw [zjT] at h; exact wpAny_eqBool_str h
 «strs» := fun k x t v h => by
  rcases zaM h with ⟨i, u, rfl, e⟩ | ⟨y, u, rfl, e⟩
  · exact nomatch e
  · injection e with e1 _
    subst e1
    cases v <;> rfl
inductive V where
 | non | bl (b : Bool) | int (i : Int) | str (x : Str) | byt (b : Array UInt8) | flt (b : UInt64) | ref (a : Addr) | ty (n : String)
 deriving DecidableEq
def RelV : V → Value → Prop
 | .non, u => u = Value.none
 | .bl b, u => u = Value.bool b
 | .int i, u => ∃ t, u = Value.int i t
 | .str x, u => ∃ t, u = Value.str x t
 | .byt b, u => ∃ t, u = Value.bytes b t
 | .flt b, u => ∃ t, u = Value.float b t
 | .ref a, u => u = Value.ref a
 | .ty n, u => u = Value.type n
abbrev Vals : List V → List Value → Prop := Paired RelV
theorem Vals.length {xs : List V} {us : List Value} (r : Vals xs us) : xs.length = us.length := Paired.length r
theorem Vals.get : ∀ {xs : List V} {us : List Value} {i : Nat} {x : V}, Vals xs us → xs[i]? = some x → ∃ u, us[i]? = some u ∧ RelV x u
 | _, _, _, _, .nil, e => by simp at e
 | _, _, 0, _, .cons r _, e => by simp at e; subst e; exact ⟨_, rfl, r⟩
 | _, _, i + 1, x, .cons _ t, e => by
  obtain ⟨u, h1, h2⟩ := Vals.get (i := i) (x := x) t (by simpa using e)
  exact ⟨u, by simpa using h1, h2⟩
theorem Vals.set {x : V} {u : Value} (r : RelV x u) : ∀ {xs : List V} {us : List Value} (i : Nat), Vals xs us → Vals (xs.set i x) (us.set i u)
 | _, _, _, .nil => .nil
 | _, _, 0, .cons _ t => .cons r t
 | _, _, i + 1, .cons q t => .cons q (Vals.set r i t)
theorem Vals.append : ∀ {xs ys : List V} {us ws : List Value}, Vals xs us → Vals ys ws → Vals (xs ++ ys) (us ++ ws)
 | _, _, _, _, .nil, s => s
 | _, _, _, _, .cons r t, s => .cons r (Vals.append t s)
theorem Vals.take : ∀ {xs : List V} {us : List Value} (n : Nat), Vals xs us → Vals (xs.take n) (us.take n)
 | _, _, 0, _ => .nil
 | _, _, _ + 1, .nil => .nil
 | _, _, n + 1, .cons r t => .cons r (Vals.take n t)
theorem Vals.drop : ∀ {xs : List V} {us : List Value} (n : Nat), Vals xs us → Vals (xs.drop n) (us.drop n)
 | _, _, 0, r => r
 | _, _, _ + 1, .nil => .nil
 | _, _, n + 1, .cons _ t => Vals.drop n t
def RelO : Option V → Option Value → Prop
 | some v, some u => RelV v u
 | none, none => True
 | _, _ => False
def KV {κ : Type} : List (κ × V) → List (κ × Value) → Prop := Paired fun (p : κ × V) (q : κ × Value) => p.1 = q.1 ∧ RelV p.2 q.2
def kV : Key → V
 | .inl i => .int i
 | .inr x => .str x
inductive HO where
 | lst (xs : List V)
 | tup (xs : List V)
 | dK (kvs : List (Key × V)) | dT (kvs : List (List Key × V))
 | set (S : Int → Bool) (n : Nat)
 | ins (C dx : Addr) (fs : List (Str × V))
 | own (x : Addr)
 | xd (fs : List (Str × V))
 | met (f x : Addr)
 | rng (lo hi : Int)
 | frz (o : Obj) (u : HO)
 | tbl (ps : Array Value)
 | ext (φ : Heap → Prop)
def IsTupP (h : Heap) (a : Addr) (items : Array Value) : Prop := ∃ o, h.get? a = some o ∧ o.cls = .type "tuple" ∧ o.dict = none ∧ ∃ n, o.data = .seq items n
theorem IsTupP.tup {h : Heap} {a : Addr} {items : Array Value} (x : IsTupP h a items) : IsTup h a items := let ⟨o, h1, h2, _, h3⟩ := x; ⟨o, h1, h2, h3⟩
theorem IsTupP.new (h : Heap) (items : Array Value) : IsTupP (h.push { cls := .type "tuple", data := .seq items }) h.objs.size items := ⟨_, Heap.get?_push_size _ rfl, rfl, rfl, _, rfl⟩
abbrev Hp := Addr → Option HO
def upd (H : Hp) (a : Addr) (o : HO) : Hp := fun b => if b = a then some o else H b
theorem zad {H : Hp} {a : Addr} {o : HO} : upd H a o a = some o := by unfold upd; rw [if_pos rfl]
theorem zal {H : Hp} {a b : Addr} {o : HO} (h : b ≠ a) : upd H a o b = H b := by unfold upd; rw [if_neg h]
theorem zje {H : Hp} {a b : Addr} {o u : HO} (h : H a = some o) (h' : H b = some u) (d : o ≠ u) : a ≠ b := by
 intro e; subst e; rw [h] at h'; exact d (Option.some.inj h')
theorem zao {H : Hp} {a b : Addr} {o : HO} (h : H a = some o) (h' : H b = none) : a ≠ b := by
 intro e; subst e; rw [h] at h'; cases h'
section
variable (P : Program) (w : World)
def ObjOk (H : Hp) (h : Heap) (a : Addr) : HO → Prop
 | .lst xs => xs.length ≤ sizeLine ∧ ∃ (its : List Value) (n : Nat), Vals xs its ∧ h.get? a = some { cls := .type "list", data := .seq its.toArray n }
 | .tup xs => xs.length ≤ sizeLine ∧ ∃ its : List Value, Vals xs its ∧ IsTupP h a its.toArray
 | .dK kvs => kvs.length ≤ sizeLine ∧ (a == sysModules) = false ∧ ∃ vs, KV kvs vs ∧ h.DictOf (zd9 P w) a vs
 | .dT kvs => kvs.length ≤ sizeLine ∧ (a == sysModules) = false ∧ ∃ xs : List (List Key × Addr × Value),
  Paired (fun (p : List Key × V) (q : List Key × Addr × Value) => p.1 = q.1 ∧ H q.2.1 = some (.tup (p.1.map kV)) ∧ RelV p.2 q.2.2) kvs xs ∧
  ∃ o es ep, h.get? a = some o ∧ o.ExactDict ∧ o.data = .dict es ep ∧ es.toList = xs.map (entryOfKey (tupleKind (zd9 P w))) ∧ (xs.map (·.1)).Nodup
 | .set S n => h.SetOf (intKind P w) a S n
 | .ins C dx fs => H dx = some (.own a) ∧ fs.length ≤ 1000 ∧ dx ≠ a ∧ h.get? a = some (PySem.W.instObj C dx) ∧
  ∃ mA, h.Ns1 dx mA ∧ (∀ f, RelO (fs.lookup f) (mA f)) ∧ PySem.Within mA (fs.map (·.1))
 | .own _ => ∃ o, h.get? a = some o
 | .xd fs => ∃ mA, h.Ns1 a mA ∧ ∀ f, RelO (fs.lookup f) (mA f)
 | .rng lo hi => ∃ t u v, h.get? a = some { cls := .type "range", data := .fields #[.int lo t, .int hi u, .int 1 v] }
 | .frz o u => h.get? a = some o ∧ ObjOk H h a u
 | .tbl ps => h.get? a = some { cls := .none, data := .fields ps }
 | .met f x => h.get? a = some (PySem.W.methodObj (.ref f) (.ref x))
 | .ext φ => φ h ∧ (∃ o, h.get? a = some o) ∧ ∀ h1 h2 : Heap, φ h1 → (∀ o, h1.get? a = some o → h2.get? a = some o) → φ h2
def HOk (H : Hp) (h : Heap) : Prop := ∀ a o, H a = some o → ObjOk P w H h a o
end
section
variable {P : Program} {w : World} {H H' : Hp} {h h' : Heap} {a : Addr} {o : HO}
theorem ObjOk.lt (x : ObjOk P w H h a o) : a < h.objs.size := by
 cases o with
 | lst xs => obtain ⟨_, _, _, _, e⟩ := x; exact Heap.lt_size e
 | tup xs => obtain ⟨_, _, _, p⟩ := x; exact (show IsTupP _ _ _ from p).tup.lt
 | dK kvs => obtain ⟨_, _, _, _, o, _, _, e, _⟩ := x; exact Heap.lt_size e
 | dT kvs => obtain ⟨_, _, _, _, o, _, _, e, _⟩ := x; exact Heap.lt_size e
 | set S n => obtain ⟨o, _, _, _, e, _⟩ := x; exact Heap.lt_size e
 | ins C dx fs => obtain ⟨_, _, _, e, _⟩ := x; exact Heap.lt_size e
 | own y => obtain ⟨_, e⟩ := x; exact Heap.lt_size e
 | xd fs => obtain ⟨_, ⟨_, _, _, e, _⟩, _⟩ := x; exact Heap.lt_size e
 | rng lo hi => obtain ⟨_, _, _, e⟩ := x; exact Heap.lt_size e
 | frz ob u => obtain ⟨e, _⟩ := x; exact Heap.lt_size e
 | tbl ps => exact Heap.lt_size (show h.get? a = some _ from x)
 | met f y => exact Heap.lt_size (show h.get? a = some _ from x)
 | ext φ => obtain ⟨_, ⟨_, e⟩, _⟩ := x; exact Heap.lt_size e
theorem Paired.mapP {α β : Type} {F G : α → β → Prop} : ∀ {l₁ : List α} {l₂ : List β}, Paired F l₁ l₂ → (∀ a b, F a b → G a b) → Paired G l₁ l₂
 | _, _, .nil, _ => .nil
 | _, _, .cons r t, f => .cons (f _ _ r) (Paired.mapP t f)
theorem ObjOk.stay (x : ObjOk P w H h a o) (k : ∀ b u, (b = a ∨ H b = some (.own a)) → h.get? b = some u → h'.get? b = some u)
 (ho : ∀ b, H b = some (.own a) → H' b = some (.own a)) (ht : ∀ b xs, H b = some (.tup xs) → H' b = some (.tup xs)) : ObjOk P w H' h' a o := by
 induction o with
 | lst xs => obtain ⟨z, its, n, r, e⟩ := x; exact ⟨z, its, n, r, k _ _ (.inl rfl) e⟩
 | tup xs => obtain ⟨z, its, r, ob, e, c⟩ := x; exact ⟨z, its, r, ob, k _ _ (.inl rfl) e, c⟩
 | dK kvs => obtain ⟨z, y, vs, r, ob, es, ep, e, c⟩ := x; exact ⟨z, y, vs, r, ob, es, ep, k _ _ (.inl rfl) e, c⟩
 | dT kvs =>
  obtain ⟨z, y, xs, r, ob, es, ep, e, c⟩ := x
  exact ⟨z, y, xs, Paired.mapP r fun p q z => ⟨z.1, ht _ _ z.2.1, z.2.2⟩, ob, es, ep, k _ _ (.inl rfl) e, c⟩
 | set S n => obtain ⟨ob, es, ep, t, e, c⟩ := x; exact ⟨ob, es, ep, t, k _ _ (.inl rfl) e, c⟩
 | ins C dx fs =>
  obtain ⟨d, z, ne, e, mA, ⟨od, es, ep, e2, c⟩, r⟩ := x
  exact ⟨ho _ d, z, ne, k _ _ (.inl rfl) e, mA, ⟨od, es, ep, k _ _ (.inr d) e2, c⟩, r⟩
 | own y => obtain ⟨ob, e⟩ := x; exact ⟨ob, k _ _ (.inl rfl) e⟩
 | xd fs => obtain ⟨mA, ⟨od, es, ep, e, c⟩, r⟩ := x; exact ⟨mA, ⟨od, es, ep, k _ _ (.inl rfl) e, c⟩, r⟩
 | rng lo hi => obtain ⟨t, u, v, e⟩ := x; exact ⟨t, u, v, k _ _ (.inl rfl) e⟩
 | frz ob u ih => obtain ⟨e, q⟩ := x; exact ⟨k _ _ (.inl rfl) e, ih q⟩
 | tbl ps =>
  have e : h.get? a = some { cls := .none, data := .fields ps } := x
  show h'.get? a = some { cls := .none, data := .fields ps }
  exact k a _ (.inl rfl) e
 | met f y =>
  have e : h.get? a = some (PySem.W.methodObj (.ref f) (.ref y)) := x
  show h'.get? a = some (PySem.W.methodObj (.ref f) (.ref y))
  exact k a _ (.inl rfl) e
 | ext φ => obtain ⟨p, ⟨o, e⟩, st⟩ := x; exact ⟨st _ _ p fun o q => k _ _ (.inl rfl) q, ⟨o, k _ _ (.inl rfl) e⟩, st⟩
theorem HOk.lt (x : HOk P w H h) (e : H a = some o) : a < h.objs.size := (x a o e).lt
theorem HOk.fresh (x : HOk P w H h) (e : h.objs.size ≤ a) : H a = none := by
 cases q : H a with
 | none => rfl
 | some u => exact absurd (Nat.lt_of_lt_of_le (x.lt q) e) (Nat.lt_irrefl _)
theorem HOk.kept (x : HOk P w H h) (k : ∀ b u, h.get? b = some u → h'.get? b = some u) : HOk P w H h' := fun a o e =>
 (x a o e).stay (fun b u _ q => k b u q) (fun _ q => q) fun _ _ q => q
theorem HOk.laid (x : HOk P w H h) (k : ∀ b u, h.get? b = some u → h'.get? b = some u) (hp : h.objs.size ≤ a) (new : ObjOk P w (upd H a o) h' a o) : HOk P w (upd H a o) h' := fun b u e => by
 have hn := x.fresh hp
 by_cases hb : b = a
 · subst hb; rw [zad] at e; cases e; exact new
 · rw [zal hb] at e
   exact (x b u e).stay (fun c v _ q => k c v q) (fun c q => by rw [zal (zao q hn)]; exact q) fun c xs q => by rw [zal (zao q hn)]; exact q
end
def Rd (H : Hp) (a : Addr) (u : HO) : Prop := H a = some u ∨ ∃ o, H a = some (.frz o u)
theorem Rd.ok {P : Program} {w : World} {H : Hp} {h : Heap} {a : Addr} {u : HO} (r : Rd H a u) (x : HOk P w H h) : ObjOk P w H h a u := by
 rcases r with r | ⟨o, r⟩
 · exact x a u r
 · obtain ⟨_, q⟩ := x a _ r
   exact q
def Mut : Option HO → Prop
 | some (.lst _) => True
 | some (.dK _) => True
 | some (.dT _) => True
 | some (.set _ _) => True
 | some (.ins _ _ _) => True
 | some (.ext _) => True
 | _ => False
section
variable {P : Program} {w : World} {H : Hp} {h h' : Heap} {x e : Addr} {o' : HO}
theorem HOk.write (ok : HOk P w H h) (mu : Mut (H x)) (he : e = x ∨ H e = some (.own x)) (k : ∀ b u, b ≠ e → h.get? b = some u → h'.get? b = some u) (heo : ∃ u, h'.get? e = some u)
 (new : ObjOk P w (upd H x o') h' x o') : HOk P w (upd H x o') h' := fun b u q => by
 have nown : ∀ c y, H c = some (.own y) → c ≠ x := fun c y r z => by subst z; rw [r] at mu; exact mu
 have ntup : ∀ c xs, H c = some (.tup xs) → c ≠ x := fun c xs r z => by subst z; rw [r] at mu; exact mu
 by_cases hb : b = x
 · subst hb; rw [zad] at q; cases q; exact new
 · rw [zal hb] at q
   by_cases hbe : b = e
   · have q' : H b = some (.own x) := by
      rcases he with z | z
      · exact absurd (hbe.trans z) hb
      · rw [hbe]; exact z
     rw [q] at q'; cases q'
     obtain ⟨v, hv⟩ := heo
     exact ⟨v, by rw [hbe]; exact hv⟩
   · refine (ok b u q).stay (fun c v hc r => k c v ?_ r) (fun c r => by rw [zal (nown c b r)]; exact r) fun c xs r => by rw [zal (ntup c xs r)]; exact r
     rcases hc with rfl | hc
     · exact hbe
     · rintro rfl
       rcases he with z | z
       · exact nown c b hc z
       · rw [hc] at z; cases z; exact hb rfl
end
structure Un (fs ex : List Addr) (H H' : Hp) (h h' : Heap) : Prop where
 keep : ∀ b o, h.get? b = some o → H b = none → b ∉ fs → b ∉ ex → h'.get? b = some o
 slot : ∀ b o, h.get? b = some o → H b = none → b ∈ fs → b ∉ ex → ∃ sl, h'.get? b = some { o with slots := sl }
 free : ∀ b o, h.get? b = some o → H b = none → b ∉ ex → H' b = none
 there : ∀ b o, h.get? b = some o → b ∉ ex → ∃ o', h'.get? b = some o'
 tups : ∀ b xs, H b = some (.tup xs) → H' b = some (.tup xs)
 frzs : ∀ b o u, H b = some (.frz o u) → H' b = some (.frz o u)
 tbls : ∀ b ps, H b = some (.tbl ps) → ∃ more, H' b = some (.tbl (ps ++ more))
section
variable {fs fs' ex ex' : List Addr} {H H1 H2 : Hp} {h h1 h2 h' : Heap} {a x e : Addr} {o : HO}
theorem Un.any (u : Un fs ex H H1 h h1) {b : Addr} {ob : Obj} (q : h.get? b = some ob) (n : H b = none) (hx : b ∉ ex) : ∃ sl, h1.get? b = some { ob with slots := sl } := by
 by_cases hb : b ∈ fs
 · exact u.slot b ob q n hb hx
 · exact ⟨ob.slots, u.keep b ob q n hb hx⟩
theorem Un.kept (k : ∀ b u, h.get? b = some u → h'.get? b = some u) : Un fs ex H H h h' :=
 ⟨fun b ob q _ _ _ => k b ob q, fun b ob q _ _ _ => ⟨ob.slots, k b ob q⟩, fun _ _ _ n _ => n, fun b ob q _ => ⟨ob, k b ob q⟩, fun _ _ q => q, fun _ _ _ q => q, fun _ ps q => ⟨#[], by rw [q]; simp⟩⟩
theorem Un.refl : Un fs ex H H h h := Un.kept fun _ _ q => q
theorem Un.laid (k : ∀ b u, h.get? b = some u → h'.get? b = some u) (hp : h.objs.size ≤ a) (hn : H a = none) : Un fs ex H (upd H a o) h h' where
 keep := fun b u q _ _ _ => k b u q
 slot := fun b u q _ _ _ => ⟨u.slots, k b u q⟩
 free := fun b u q n _ => by rw [zal (Nat.ne_of_lt (Nat.lt_of_lt_of_le (Heap.lt_size q) hp))]; exact n
 there := fun b u q _ => ⟨u, k b u q⟩
 tups := fun b xs q => by rw [zal (zao q hn)]; exact q
 frzs := fun b u xs q => by rw [zal (zao q hn)]; exact q
 tbls := fun b ps q => ⟨#[], by rw [zal (zao q hn), q]; simp⟩
theorem Un.write (mu : Mut (H x)) (he : e = x ∨ H e = some (.own x)) (k : ∀ b u, b ≠ e → h.get? b = some u → h'.get? b = some u) (heo : ∃ u, h'.get? e = some u) : Un fs ex H (upd H x o) h h' := by
 have hx : ∀ b, H b = none → b ≠ x := fun b n z => by subst z; rw [n] at mu; exact mu
 have hb : ∀ b, H b = none → b ≠ e := fun b n z => by
  subst z
  rcases he with r | r
  · exact hx b n r
  · rw [n] at r; cases r
 have hm : ∀ b u, H b = some u → ¬ Mut (some u) → b ≠ x := fun b u q nm z => by subst z; rw [q] at mu; exact nm mu
 refine ⟨fun b u q n _ _ => k b u (hb b n) q, fun b u q n _ _ => ⟨u.slots, k b u (hb b n) q⟩, fun b u q n _ => by rw [zal (hx b n)]; exact n, fun b u q _ => ?_,
  fun b xs q => by rw [zal (hm b _ q fun z => z)]; exact q, fun b u xs q => by rw [zal (hm b _ q fun z => z)]; exact q, fun b ps q => ⟨#[], by rw [zal (hm b _ q fun z => z), q]; simp⟩⟩
 by_cases hbe : b = e
 · subst hbe; exact heo
 · exact ⟨u, k b u hbe q⟩
end
def trk (h : Heap) (H : Hp) : List Addr := (List.range h.objs.size).filter fun a => (H a).isSome
def hidT (h : Heap) (H : Hp) : Heap := PySem.W.hideAll h (trk h H)
theorem zhJ (h : Heap) (H : Hp) : (hidT h H).objs.size = h.objs.size := PySem.W.hideAll_size _ _
theorem zio {h : Heap} {H : Hp} {b : Addr} {o : Obj} (e : h.get? b = some o) (n : H b = none) : (hidT h H).get? b = some o :=
 PySem.W.hideAll_get _ e fun hm => by
  have q : (H b).isSome = true := (List.mem_filter.mp hm).2
  rw [n] at q; simp at q
theorem zjd {h : Heap} {H : Hp} {b : Addr} {o : Obj} (e : (hidT h H).get? b = some o) : h.get? b = some o ∧ H b = none := by
 have e' : h.get? b = some o := PySem.W.of_hideAll (trk h H) e
 refine ⟨e', ?_⟩
 cases q : H b with
 | none => rfl
 | some x =>
  have hm : b ∈ trk h H := List.mem_filter.mpr ⟨List.mem_range.mpr (Heap.lt_size e'), by simp [q]⟩
  have z : (hidT h H).get? b = none := PySem.W.hideAll_none (trk h H) hm
  rw [z] at e; cases e
def zjm (g h : Heap) (L : Addr) : List (Addr × Obj) := (List.range h.objs.size).filterMap fun a => if a = L ∨ (g.get? a).isSome = true then none else (h.get? a).map fun o => (a, o)
def rest (g h : Heap) (L d : Addr) : List (Addr × Obj) := (zjm g h L).filter fun p => decide (p.1 ≠ d)
structure Mod (K : PySem.W.Frag) (mg : Str → Option Value) (base : Heap) : Prop where
 kin : K.In base
 glob : base.Ns mainGlobals mg
 blt : ∃ mb, base.Ns builtinsNs mb ∧ ∀ x : Str, x ≠ "__name__" → mb x = bootBuiltins x
 nolimit : base.NoLimit
structure Cx where
 prog : Program
 w : World
 K : PySem.W.Frag
 mg : Str → Option Value
 base : Heap
 A : Around
 N : List Str
 s₀ : Shared
 H₀ : Hp
 env : Env
 outer : List Env
 stack : List Env
 ex : List Addr
 fn : Str → Bool
 calm : Bool
 pn : List (Addr × Obj)
 xe : Value → Shared → Prop
def frs (l : List Env) : List Addr := l.filterMap (·.frame)
abbrev Cx.fs (X : Cx) : List Addr := frs X.outer
def Vis (sc : Scope) (x : Str) : Prop := sc.names.lookup x = some .local ∨ sc.names.lookup x = some .cell ∨ sc.names.lookup x = some .free
def Loc (sc : Scope) (x : Str) : Prop := sc.names.lookup x = some .local ∨ sc.names.lookup x = some .cell
def Look (env : Env) (h : Heap) (m : Str → Option Value) (x : Str) (u : Value) : Prop :=
 (env.kindOf x = some .local ∧ m x = some u) ∨ ((env.kindOf x = some .cell ∨ env.kindOf x = some .free) ∧ ∃ c, env.cells.lookup x = some c ∧ h.IsCell c (some u))
structure Cx.Ok (X : Cx) : Prop where
 mod : Mod X.K X.mg X.base
 kind : X.env.scope.kind = .function
 glob : X.env.globals = mainGlobals
 blt : X.env.builtins = builtinsNs
 above : X.s₀.heap.objs.size ≤ X.env.locals
 inj : ∀ x y c, X.env.cells.lookup x = some c → X.env.cells.lookup y = some c → x = y
 has : ∀ x, (X.env.kindOf x = some .cell ∨ X.env.kindOf x = some .free) → ∃ c, X.env.cells.lookup x = some c
 cab : ∀ x c, X.fn x = true → X.env.cells.lookup x = some c → X.s₀.heap.objs.size ≤ c
 hd : X.calm = true → X.A.handled = none
 frames : X.A.frames = some X.stack
 stk : X.stack = X.outer ∨ (X.stack = X.env :: X.outer ∧ X.env.frame = some X.env.locals)
 exf : ∀ b ∈ X.ex, b ≠ X.env.locals ∧ ∀ x c, X.env.cells.lookup x = some c → c ≠ b
 bs : ∀ b o, X.base.get? b = some o → X.s₀.heap.get? b = some o ∧ X.H₀ b = none
 bsz : X.base.objs.size ≤ X.s₀.heap.objs.size
 noex : ∀ b o, X.base.get? b = some o → b ∉ X.ex
 exfs : ∀ b ∈ X.ex, b ∉ X.fs
 funs : X.s₀.heap.FunFrames X.base X.outer
 frf : ∀ b ∈ X.fs, X.H₀ b = none
structure Inv (X : Cx) (pins : List (Addr × Obj)) (σ : List (Option V)) (H : Hp) (s : Shared) : Prop where
 ok : X.Ok
 os : s.os = X.s₀.os
 bare : AllBare s.gens
 base : Un X.fs X.ex X.H₀ H X.s₀.heap s.heap
 loc : ∃ m, s.heap.Ns X.env.locals m ∧ ∀ (i : Nat) (x : Str) (v : V), X.N[i]? = some x → σ[i]? = some (some v) → Vis X.env.scope x → ∃ u, RelV v u ∧ Look X.env s.heap m x u
 cell : ∀ x c, X.env.cells.lookup x = some c → ∃ v, s.heap.IsCell c v
 free : H X.env.locals = none
 freeC : ∀ x c, X.env.cells.lookup x = some c → H c = none
 pin : ∀ p ∈ X.pn ++ pins, s.heap.get? p.1 = some p.2 ∧ H p.1 = none ∧ p.1 ≠ X.env.locals ∧ p.1 ∉ X.fs ∧ ∀ v, p.2.data ≠ .cell v
 hok : HOk X.prog X.w H s.heap
 len : σ.length = X.N.length
section
variable {X : Cx} {pins : List (Addr × Obj)} {σ : List (Option V)} {H H' : Hp} {s : Shared} {h' : Heap}
theorem Cx.Ok.nofr (ok : X.Ok) {b : Addr} {o : Obj} (e : X.base.get? b = some o) : b ∉ X.fs := fun hb => by
 have := (ok.funs.mem hb).1
 rw [e] at this; cases this
theorem Inv.bs (I : Inv X pins σ H s) : ∀ b o, X.base.get? b = some o → s.heap.get? b = some o ∧ H b = none := fun b o e =>
 ⟨I.base.keep b o (I.ok.bs b o e).1 (I.ok.bs b o e).2 (I.ok.nofr e) (I.ok.noex b o e), I.base.free b o (I.ok.bs b o e).1 (I.ok.bs b o e).2 (I.ok.noex b o e)⟩
theorem Inv.bk (I : Inv X pins σ H s) : ∀ b o, X.base.get? b = some o → s.heap.get? b = some o := fun b o e => (I.bs b o e).1
theorem Inv.mod (I : Inv X pins σ H s) : Mod X.K X.mg X.base := I.ok.mod
theorem Inv.kIn (I : Inv X pins σ H s) : X.K.In s.heap := I.ok.mod.kin.keeps I.bk
theorem Inv.lt (I : Inv X pins σ H s) : X.env.locals < s.heap.objs.size := let ⟨_, hn, _⟩ := I.loc; hn.lt
theorem Inv.sz (I : Inv X pins σ H s) : X.s₀.heap.objs.size ≤ s.heap.objs.size := Nat.le_trans I.ok.above (Nat.le_of_lt I.lt)
theorem Inv.nofs (I : Inv X pins σ H s) {a : Addr} (h : s.heap.objs.size ≤ a) : a ∉ X.fs := fun hb => by
 obtain ⟨_, o, ho, _⟩ := I.ok.funs.mem hb
 exact absurd (Nat.lt_of_lt_of_le (Heap.lt_size ho) (Nat.le_trans I.sz h)) (Nat.lt_irrefl _)
theorem Inv.cne (I : Inv X pins σ H s) : ∀ x c, X.env.cells.lookup x = some c → c ≠ X.env.locals := fun x c e z => by
 obtain ⟨v, o, ho, hd⟩ := I.cell x c e
 obtain ⟨m, ⟨o', es, ep, ho', hd', _⟩, _⟩ := I.loc
 rw [z, ho'] at ho; cases ho; rw [hd'] at hd; cases hd
theorem Inv.funs (I : Inv X pins σ H s) : s.heap.FunFrames X.base X.outer := by
 have all : ∀ (l : List Env), (∀ b ∈ frs l, b ∈ X.fs) → X.s₀.heap.FunFrames X.base l → s.heap.FunFrames X.base l := by
  intro l
  induction l with
  | nil => intro _ _; trivial
  | cons env r ih =>
   intro hs hl
   obtain ⟨hk, ⟨L, o, hf, hn, ho, hd⟩, hr⟩ := hl
   have hL : L ∈ X.fs := hs L (by unfold frs; rw [List.filterMap_cons, hf]; exact List.mem_cons_self)
   obtain ⟨sl, e⟩ := I.base.slot L o ho (I.ok.frf L hL) hL fun z => I.ok.exfs L z hL
   exact ⟨hk, ⟨L, _, hf, hn, e, hd⟩, ih (fun b hb => hs b (by unfold frs; rw [List.filterMap_cons, hf]; exact List.mem_cons_of_mem _ hb)) hr⟩
 exact all X.outer (fun _ hb => hb) I.ok.funs
theorem Inv.stack (I : Inv X pins σ H s) : s.heap.FunFrames X.base X.stack := by
 rcases I.ok.stk with e | ⟨e, hf⟩
 · rw [e]; exact I.funs
 · rw [e]
   obtain ⟨m, hn, _⟩ := I.loc
   refine .cons (by rw [I.ok.kind]; decide) hf hn ?_ I.funs
   exact Heap.get?_none_of_le (Nat.le_trans I.ok.bsz I.ok.above)
theorem Inv.stkSub (I : Inv X pins σ H s) : ∀ b ∈ frs X.stack, b ∈ X.env.locals :: X.fs := fun b hb => by
 rcases I.ok.stk with e | ⟨e, hf⟩
 · rw [e] at hb; exact List.mem_cons_of_mem _ hb
 · rw [e] at hb
   unfold frs at hb
   rw [List.filterMap_cons, hf] at hb
   exact hb
theorem Inv.stkFree (I : Inv X pins σ H s) : ∀ b ∈ frs X.stack, H b = none := fun b hb => by
 rcases List.mem_cons.mp (I.stkSub b hb) with e | hb
 · rw [e]; exact I.free
 · obtain ⟨_, o, ho, _⟩ := I.ok.funs.mem hb
   exact I.base.free b o ho (I.ok.frf b hb) fun z => I.ok.exfs b z hb
theorem Inv.step {g' : Array GenState} {t' : Nat} {d' : Drawn} {ch : List Addr} (I : Inv X pins σ H s)
 (hch : ∀ b ∈ ch, (b ∈ X.ex ∨ X.s₀.heap.objs.size ≤ b) ∧ b ≠ X.env.locals ∧ (∀ x c, X.env.cells.lookup x = some c → c ≠ b) ∧ ∀ p ∈ X.pn ++ pins, p.1 ≠ b)
 (keep : ∀ b o, b ≠ X.env.locals → b ∉ X.fs → b ∉ ch → s.heap.get? b = some o → H b = none → h'.get? b = some o)
 (slot : ∀ b o, b ≠ X.env.locals → b ∈ X.fs → b ∉ ch → s.heap.get? b = some o → H b = none → ∃ sl, h'.get? b = some { o with slots := sl }) (free : ∀ b o, b ∉ ch → s.heap.get? b = some o → H b = none → H' b = none)
 (there : ∀ b o, b ∉ ch → s.heap.get? b = some o → ∃ o', h'.get? b = some o')
 (tups : ∀ b xs, H b = some (.tup xs) → H' b = some (.tup xs)) (frzs : ∀ b o u, H b = some (.frz o u) → H' b = some (.frz o u)) (tbls : ∀ b ps, H b = some (.tbl ps) → ∃ more, H' b = some (.tbl (ps ++ more)))
 (ns : ∀ m, s.heap.Ns X.env.locals m → h'.Ns X.env.locals m) (hok : HOk X.prog X.w H' h') (hg : AllBare g') :
 Inv X pins σ H' { s with heap := h', gens := g', drawn := d', toks := t' } := by
 have neL : ∀ b o, X.s₀.heap.get? b = some o → b ≠ X.env.locals := fun b o e => Nat.ne_of_lt (Nat.lt_of_lt_of_le (Heap.lt_size e) I.ok.above)
 have neC : ∀ b o, X.s₀.heap.get? b = some o → b ∉ X.ex → b ∉ ch := fun b o e hx hb => by
  rcases (hch b hb).1 with z | z
  · exact hx z
  · exact absurd (Nat.lt_of_lt_of_le (Heap.lt_size e) z) (Nat.lt_irrefl _)
 have cellK : ∀ x c, X.env.cells.lookup x = some c → ∀ v, s.heap.IsCell c v → h'.IsCell c v := fun x c e v ⟨o, ho, hd⟩ => by
  have nch : c ∉ ch := fun z => (hch c z).2.2.1 x c e rfl
  by_cases hc : c ∈ X.fs
  · obtain ⟨sl, q⟩ := slot c o (I.cne x c e) hc nch ho (I.freeC x c e)
    exact ⟨_, q, hd⟩
  · exact ⟨o, keep c o (I.cne x c e) hc nch ho (I.freeC x c e), hd⟩
 refine ⟨I.ok, I.os, hg, ⟨fun b o e n hb hx => ?_, fun b o e n hb hx => ?_, fun b o e n hx => ?_, fun b o e hx => ?_, fun b xs e => tups b xs (I.base.tups b xs e), fun b o xs e => frzs b o xs (I.base.frzs b o xs e), fun b ps e => ?_⟩, ?_, fun x c e => ?_, ?_, fun x c e => ?_, fun p hp => ?_, hok, I.len⟩
 · exact keep b o (neL b o e) hb (neC b o e hx) (I.base.keep b o e n hb hx) (I.base.free b o e n hx)
 · obtain ⟨sl, e1⟩ := I.base.slot b o e n hb hx
   obtain ⟨sl', e2⟩ := slot b _ (neL b o e) hb (neC b o e hx) e1 (I.base.free b o e n hx)
   exact ⟨sl', e2⟩
 · obtain ⟨o', e1⟩ := I.base.there b o e hx
   exact free b o' (neC b o e hx) e1 (I.base.free b o e n hx)
 · obtain ⟨o', e1⟩ := I.base.there b o e hx
   exact there b o' (neC b o e hx) e1
 · obtain ⟨m1, e1⟩ := I.base.tbls b ps e
   obtain ⟨m2, e2⟩ := tbls b _ e1
   exact ⟨m1 ++ m2, by rw [e2, Array.append_assoc]⟩
 · obtain ⟨m, hn, hl⟩ := I.loc
   refine ⟨m, ns m hn, fun i x v e1 e2 e3 => ?_⟩
   obtain ⟨u, r, l⟩ := hl i x v e1 e2 e3
   refine ⟨u, r, ?_⟩
   rcases l with l | ⟨k, c, e, z⟩
   · exact .inl l
   · exact .inr ⟨k, c, e, cellK x c e _ z⟩
 · obtain ⟨v, z⟩ := I.cell x c e
   exact ⟨v, cellK x c e v z⟩
 · obtain ⟨m, ⟨o, _, _, ho, _⟩, _⟩ := I.loc
   exact free _ o (fun z => (hch _ z).2.1 rfl) ho I.free
 · obtain ⟨v, o, ho, hd⟩ := I.cell x c e
   exact free c o (fun z => (hch c z).2.2.1 x c e rfl) ho (I.freeC x c e)
 · obtain ⟨e, n, ne, nf, d⟩ := I.pin p hp
   have nch : p.1 ∉ ch := fun z => (hch p.1 z).2.2.2 p hp rfl
   exact ⟨keep p.1 p.2 ne nf nch e n, free p.1 p.2 nch e n, ne, nf, d⟩
theorem Inv.un {t' : Nat} (I : Inv X pins σ H s) (u : Un X.fs [] H H' s.heap h') (hok : HOk X.prog X.w H' h') : Inv X pins σ H' { s with heap := h', toks := t' } := by
 obtain ⟨m, ⟨o, es, ep, ho, r⟩, _⟩ := id I.loc
 obtain ⟨sl, hL⟩ := u.any ho I.free (by simp)
 exact I.step (g' := s.gens) (d' := s.drawn) (ch := []) (fun _ z => nomatch z) (fun b o _ hb _ e n => u.keep b o e n hb (by simp)) (fun b o _ hb _ e n => u.slot b o e n hb (by simp)) (fun b o _ e n => u.free b o e n (by simp)) (fun b o _ e => u.there b o e (by simp)) u.tups u.frzs u.tbls (fun m' hm => by
  obtain ⟨o', es', ep', ho', r'⟩ := hm
  rw [ho] at ho'; cases ho'
  exact ⟨_, es', ep', hL, r'⟩) hok I.bare
theorem Inv.call {g' : Array GenState} {t' : Nat} {d' : Drawn} {ch : List Addr} (I : Inv X pins σ H s) (u : Un (frs X.stack) ch H H' s.heap h') (hok : HOk X.prog X.w H' h') (hg : AllBare g')
 (hch : ∀ b ∈ ch, (b ∈ X.ex ∨ X.s₀.heap.objs.size ≤ b) ∧ b ≠ X.env.locals ∧ (∀ x c, X.env.cells.lookup x = some c → c ≠ b) ∧ ∀ p ∈ X.pn ++ pins, p.1 ≠ b) :
 Inv X pins σ H' { s with heap := h', gens := g', drawn := d', toks := t' } := by
 obtain ⟨m, ⟨o, es, ep, ho, r⟩, _⟩ := id I.loc
 obtain ⟨sl, hL⟩ := u.any ho I.free fun z => (hch _ z).2.1 rfl
 exact I.step (ch := ch) hch (fun b o hL hb hc e n => u.keep b o e n (fun z => (List.mem_cons.mp (I.stkSub b z)).elim hL hb) hc) (fun b o _ _ hc e n => u.any e n hc) (fun b o hc e n => u.free b o e n hc) (fun b o hc e => u.there b o e hc) u.tups u.frzs u.tbls (fun m' hm => by
  obtain ⟨o', es', ep', ho', r'⟩ := hm
  rw [ho] at ho'; cases ho'
  exact ⟨_, es', ep', hL, r'⟩) hok hg
theorem Inv.turned {t' : Nat} {it : Addr} (I : Inv X pins σ H s) (k : ∀ b o, b ≠ it → s.heap.get? b = some o → h'.get? b = some o) (hn : H it = none) (hL : it ≠ X.env.locals)
 (h1 : it ∈ X.ex ∨ X.s₀.heap.objs.size ≤ it) (h2 : ∀ x c, X.env.cells.lookup x = some c → c ≠ it) (h3 : ∀ p ∈ X.pn ++ pins, p.1 ≠ it) : Inv X pins σ H { s with heap := h', toks := t' } := by
 have nit : ∀ b u, H b = some u → b ≠ it := fun b u e z => by rw [z, hn] at e; cases e
 refine I.step (g' := s.gens) (d' := s.drawn) (ch := [it]) (fun b hb => ?_) (fun b o _ _ hc e _ => k b o (fun z => hc (by simp [z])) e) (fun b o _ _ hc e _ => ⟨o.slots, k b o (fun z => hc (by simp [z])) e⟩) (fun _ _ _ _ n => n)
  (fun b o hc e => ⟨o, k b o (fun z => hc (by simp [z])) e⟩) (fun _ _ e => e) (fun _ _ _ e => e) (fun b ps e => ⟨#[], by rw [e]; simp⟩) (fun m hm => ?_) (fun b u e => ?_) I.bare
 · have e : b = it := by simpa using hb
   subst e
   exact ⟨h1, hL, h2, h3⟩
 · obtain ⟨o, es, ep, ho, r⟩ := hm
   exact ⟨o, es, ep, k _ o (Ne.symm hL) ho, r⟩
 · refine (I.hok b u e).stay (fun c v hc q => k c v ?_ q) (fun _ q => q) fun _ _ q => q
   rcases hc with z | z
   · rw [z]; exact nit b u e
   · exact nit c _ z
theorem Inv.tok (I : Inv X pins σ H s) (t : Nat) : Inv X pins σ H { s with toks := t } := I.un (h' := s.heap) (t' := t) Un.refl I.hok
theorem Inv.kept {t' : Nat} (I : Inv X pins σ H s) (k : ∀ b u, s.heap.get? b = some u → h'.get? b = some u) : Inv X pins σ H { s with heap := h', toks := t' } := I.un (Un.kept k) (I.hok.kept k)
theorem Inv.laid {a : Addr} {o : HO} {t' : Nat} (I : Inv X pins σ H s) (k : ∀ b u, s.heap.get? b = some u → h'.get? b = some u) (hp : s.heap.objs.size ≤ a) (new : ObjOk X.prog X.w (upd H a o) h' a o) :
 Inv X pins σ (upd H a o) { s with heap := h', toks := t' } := I.un (Un.laid k hp (I.hok.fresh hp)) (I.hok.laid k hp new)
theorem Inv.write {x e : Addr} {o : HO} {t' : Nat} (I : Inv X pins σ H s) (mu : Mut (H x)) (he : e = x ∨ H e = some (.own x)) (k : ∀ b u, b ≠ e → s.heap.get? b = some u → h'.get? b = some u) (heo : ∃ u, h'.get? e = some u)
 (new : ObjOk X.prog X.w (upd H x o) h' x o) : Inv X pins σ (upd H x o) { s with heap := h', toks := t' } := I.un (Un.write mu he k heo) (I.hok.write mu he k heo new)
theorem Inv.pins_of {pins' : List (Addr × Obj)} (I : Inv X pins σ H s) (h : ∀ p ∈ pins', s.heap.get? p.1 = some p.2 ∧ H p.1 = none ∧ p.1 ≠ X.env.locals ∧ p.1 ∉ X.fs ∧ ∀ v, p.2.data ≠ .cell v) : Inv X pins' σ H s :=
 ⟨I.ok, I.os, I.bare, I.base, I.loc, I.cell, I.free, I.freeC, fun p hp => (List.mem_append.mp hp).elim (fun z => I.pin p (List.mem_append_left _ z)) (h p), I.hok, I.len⟩
theorem zf0 {N : List Str} (hN : N.Nodup) {i j : Nat} {x : Str} (a : N[i]? = some x) (b : N[j]? = some x) : i = j := by
 obtain ⟨h1, e1⟩ := List.getElem?_eq_some_iff.mp a
 obtain ⟨h2, e2⟩ := List.getElem?_eq_some_iff.mp b
 exact (List.getElem_inj hN).mp (e1.trans e2.symm)
theorem zeq {M : Model} {A : Around} {E : Value → Shared → Prop} {i : Nat} {x : Str} {v : V} {u : Value} {Q : Unit → Shared → Prop} (I : Inv X pins σ H s) (hN : X.N.Nodup) (hi : X.N[i]? = some x) (hx : Loc X.env.scope x) (r : RelV v u)
 (h : ∀ s', Inv X pins (σ.set i (some v)) H s' → (∃ a, Heap.SameBut a s.heap s'.heap ∧ (a = X.env.locals ∨ X.env.cells.lookup x = some a)) → Q () s') (hf : X.fn x = true ∨ X.env.scope.names.lookup x = some .local := by first | exact .inl rfl | exact .inr rfl | assumption) : wpAny M A (storeName X.env x u) Q E s := by
 obtain ⟨m, hn, hl⟩ := id I.loc
 have hcls : (X.env.scope.kind == .class || (X.env.scope.kind == .module && X.env.locals != X.env.globals)) = false := by rw [I.ok.kind]; rfl
 have hiσ : i < σ.length := by rw [I.len]; exact (List.getElem?_eq_some_iff.mp hi).1
 have cne := I.cne
 have tracked : ∀ {a : Addr} {h' : Heap}, (∃ o, s.heap.get? a = some o ∧ H a = none) → Heap.SameBut a s.heap h' → HOk X.prog X.w H h' := fun {a h'} ha hs b ob e => by
  obtain ⟨_, _, hfree⟩ := ha
  refine (I.hok b ob e).stay (fun c w' hc q => (hs.2 c ?_).trans q) (fun _ q => q) fun _ _ q => q
  rintro rfl
  rcases hc with rfl | hc
  · rw [hfree] at e; cases e
  · rw [hfree] at hc; cases hc
 rcases hx with hk | hk
 · refine wpAny_storeName_local hk hn (fun h' hn' hs => ?_) hcls
   obtain ⟨oL, _, _, hoL, _⟩ := id hn
   refine h _ ⟨I.ok, I.os, I.bare, ⟨fun b o e n hb hx => ?_, fun b o e n hb hx => ?_, I.base.free, fun b o e hx => ?_, I.base.tups, I.base.frzs, I.base.tbls⟩, ⟨_, hn', fun j y v' e1 e2 e3 => ?_⟩, fun y c e => ?_, I.free, I.freeC, fun p hp => ?_, tracked ⟨oL, hoL, I.free⟩ hs, by simpa using I.len⟩ ⟨_, hs, .inl rfl⟩
   · exact (hs.2 b (Nat.ne_of_lt (Nat.lt_of_lt_of_le (Heap.lt_size e) I.ok.above))).trans (I.base.keep b o e n hb hx)
   · obtain ⟨sl, e1⟩ := I.base.slot b o e n hb hx
     exact ⟨sl, (hs.2 b (Nat.ne_of_lt (Nat.lt_of_lt_of_le (Heap.lt_size e) I.ok.above))).trans e1⟩
   · obtain ⟨o', e1⟩ := I.base.there b o e hx
     exact ⟨o', (hs.2 b (Nat.ne_of_lt (Nat.lt_of_lt_of_le (Heap.lt_size e) I.ok.above))).trans e1⟩
   · by_cases hj : j = i
     · subst hj
       rw [hi] at e1; cases e1
       rw [List.getElem?_set_self hiσ] at e2
       cases e2
       exact ⟨u, r, .inl ⟨hk, by simp⟩⟩
     · rw [List.getElem?_set_ne (Ne.symm hj)] at e2
       obtain ⟨u', r', q⟩ := hl j y v' e1 e2 e3
       refine ⟨u', r', ?_⟩
       rcases q with ⟨k, e⟩ | ⟨k, c, e, z⟩
       · refine .inl ⟨k, ?_⟩
         have : y ≠ x := fun e => hj (zf0 hN e1 (e ▸ hi))
         simp [this, e]
       · exact .inr ⟨k, c, e, z.sameBut hs (cne y c e)⟩
   · obtain ⟨w', z⟩ := I.cell y c e
     exact ⟨w', z.sameBut hs (cne y c e)⟩
   · obtain ⟨e, n, ne, nf, d⟩ := I.pin p hp
     exact ⟨(hs.2 p.1 ne).trans e, n, ne, nf, d⟩
 · have hfn : X.fn x = true := by
    rcases hf with z | z
    · exact z
    · rw [z] at hk; cases hk
   obtain ⟨c, hc⟩ := I.ok.has x (.inl hk)
   obtain ⟨w', z⟩ := I.cell x c hc
   refine wpAny_storeName_cell I.ok.kind hk hc z (fun h' hc' hs => ?_)
   obtain ⟨oc, hoc, hocd⟩ := id z
   refine h { s with heap := h' } ⟨I.ok, I.os, I.bare, ⟨fun b o e n hb hx => ?_, fun b o e n hb hx => ?_, I.base.free, fun b o e hx => ?_, I.base.tups, I.base.frzs, I.base.tbls⟩, ⟨m, hn.sameBut hs (Ne.symm (cne x c hc)), fun j y v' e1 e2 e3 => ?_⟩, fun y c' e => ?_, I.free, I.freeC, fun p hp => ?_, tracked ⟨oc, hoc, I.freeC x c hc⟩ hs, by simpa using I.len⟩ ⟨c, hs, .inr hc⟩
   · exact (hs.2 b (Nat.ne_of_lt (Nat.lt_of_lt_of_le (Heap.lt_size e) (I.ok.cab x c hfn hc)))).trans (I.base.keep b o e n hb hx)
   · obtain ⟨sl, e1⟩ := I.base.slot b o e n hb hx
     exact ⟨sl, (hs.2 b (Nat.ne_of_lt (Nat.lt_of_lt_of_le (Heap.lt_size e) (I.ok.cab x c hfn hc)))).trans e1⟩
   · obtain ⟨o', e1⟩ := I.base.there b o e hx
     exact ⟨o', (hs.2 b (Nat.ne_of_lt (Nat.lt_of_lt_of_le (Heap.lt_size e) (I.ok.cab x c hfn hc)))).trans e1⟩
   · by_cases hj : j = i
     · subst hj
       rw [hi] at e1; cases e1
       rw [List.getElem?_set_self hiσ] at e2
       cases e2
       exact ⟨u, r, .inr ⟨.inl hk, c, hc, hc'⟩⟩
     · rw [List.getElem?_set_ne (Ne.symm hj)] at e2
       obtain ⟨u', r', q⟩ := hl j y v' e1 e2 e3
       refine ⟨u', r', ?_⟩
       rcases q with q | ⟨k, c', e, z'⟩
       · exact .inl q
       · refine .inr ⟨k, c', e, z'.sameBut hs ?_⟩
         rintro rfl
         exact hj (zf0 hN e1 (I.ok.inj _ _ _ e hc ▸ hi))
   · by_cases hcc : c' = c
     · subst hcc; exact ⟨_, hc'⟩
     · obtain ⟨w2, z2⟩ := I.cell y c' e
       exact ⟨w2, z2.sameBut hs hcc⟩
   · obtain ⟨e, n, ne, nf, d⟩ := I.pin p hp
     refine ⟨(hs.2 p.1 ?_).trans e, n, ne, nf, d⟩
     intro q
     rw [q, hoc] at e
     have q' : oc = p.2 := Option.some.inj e
     exact d w' (by rw [← q']; exact hocd)
theorem zfR {M : Model} {A : Around} {E : Value → Shared → Prop} {i : Nat} {x : Str} {v : V} {u : Value} {Q : Unit → Shared → Prop} (I : Inv X pins σ H s) (hN : X.N.Nodup) (hi : X.N[i]? = some x) (hx : Loc X.env.scope x) (r : RelV v u)
 (h : ∀ s', Inv X pins (σ.set i (some v)) H s' → Q () s') (hf : X.fn x = true ∨ X.env.scope.names.lookup x = some .local := by first | exact .inl rfl | exact .inr rfl | assumption) : wpAny M A (storeName X.env x u) Q E s :=
 zeq I hN hi hx r (fun s' I' _ => h s' I') hf
theorem Inv.call' {s' : Shared} {ch : List Addr} (I : Inv X pins σ H s) (ho : s'.os = s.os) (u : Un (frs X.stack) ch H H' s.heap s'.heap) (hok : HOk X.prog X.w H' s'.heap) (hg : AllBare s'.gens)
 (hch : ∀ b ∈ ch, (b ∈ X.ex ∨ X.s₀.heap.objs.size ≤ b) ∧ b ≠ X.env.locals ∧ (∀ x c, X.env.cells.lookup x = some c → c ≠ b) ∧ ∀ p ∈ X.pn ++ pins, p.1 ≠ b) : Inv X pins σ H' s' := by
 obtain ⟨h', g', d', t', o'⟩ := s'
 have e : o' = s.os := ho
 subst e
 exact I.call (g' := g') (t' := t') (d' := d') u hok hg hch
end
abbrev XK := Value → Option Addr → Hp → Prop
abbrev St := List (Option V)
abbrev VK := V → Hp → Prop
abbrev TE := St → Hp → VK → Prop
abbrev TT := St → Hp → (Bool → Hp → Prop) → Prop
abbrev TA := St → Hp → (List V → Hp → Prop) → Prop
structure Ends where
 nx : St → Hp → Prop
 rt : VK
 bk : St → Hp → Prop := fun _ _ => False
 ct : St → Hp → Prop := fun _ _ => False
abbrev TS := Ends → St → Hp → Prop
def EP (X : Cx) (pins : List (Addr × Obj)) (σ : St) (Q : VK) (u : Value) (s' : Shared) : Prop := ∃ v H', Inv X pins σ H' s' ∧ RelV v u ∧ Q v H'
def TP (X : Cx) (pins : List (Addr × Obj)) (σ : St) (Q : Bool → Hp → Prop) (b : Bool) (s' : Shared) : Prop := ∃ H', Inv X pins σ H' s' ∧ Q b H'
def AP (X : Cx) (pins : List (Addr × Obj)) (σ : St) (Q : List V → Hp → Prop) (us : List Value) (s' : Shared) : Prop := ∃ vs H', Inv X pins σ H' s' ∧ Vals vs us ∧ Q vs H'
def SP (X : Cx) (pins : List (Addr × Obj)) (D : Ends) (f : Flow) (s' : Shared) : Prop :=
 match f with
 | .next => ∃ σ' H', Inv X pins σ' H' s' ∧ D.nx σ' H'
 | .brk => ∃ σ' H', Inv X pins σ' H' s' ∧ D.bk σ' H'
 | .cont => ∃ σ' H', Inv X pins σ' H' s' ∧ D.ct σ' H'
 | .ret u => ∃ v σ' H', Inv X pins σ' H' s' ∧ RelV v u ∧ D.rt v H'
def PE (X : Cx) (e : Expr) (t : TE) : Prop :=
 ∀ (pins : List (Addr × Obj)) (s : Shared) (σ : St) (H : Hp) (Q : VK), Inv X pins σ H s → t σ H Q → wpAny (model X.prog X.w) X.A (eval e X.env) (EP X pins σ Q) X.xe s
def PT (X : Cx) (e : Expr) (t : TT) : Prop :=
 ∀ (pins : List (Addr × Obj)) (s : Shared) (σ : St) (H : Hp) (Q : Bool → Hp → Prop), Inv X pins σ H s → t σ H Q → wpAny (model X.prog X.w) X.A (isTrue e X.env (eval e X.env)) (TP X pins σ Q) X.xe s
def PW (X : Cx) (e : Expr) (t : TT) : Prop :=
 ∀ (whole : Sem Value) (pins : List (Addr × Obj)) (s : Shared) (σ : St) (H : Hp) (Q : Bool → Hp → Prop), Inv X pins σ H s → t σ H Q → wpAny (model X.prog X.w) X.A (isTrue e X.env whole) (TP X pins σ Q) X.xe s
theorem PW.pt {X : Cx} {e : Expr} {t : TT} (h : PW X e t) : PT X e t := h _
def PA (X : Cx) (es : List Expr) (t : TA) : Prop :=
 ∀ (pos : Pos) (pins : List (Addr × Obj)) (s : Shared) (σ : St) (H : Hp) (Q : List V → Hp → Prop), Inv X pins σ H s → t σ H Q → wpAny (model X.prog X.w) X.A (spliced (backTo pos (starEach es X.env))) (AP X pins σ Q) X.xe s
def PS (X : Cx) (st : Stmt) (t : TS) : Prop :=
 ∀ (pins : List (Addr × Obj)) (s : Shared) (σ : St) (H : Hp) (D : Ends), Inv X pins σ H s → t D σ H → wpAny (model X.prog X.w) X.A (exec st X.env) (SP X pins D) X.xe s
def PSs (X : Cx) (st : List Stmt) (t : TS) : Prop :=
 ∀ (pins : List (Addr × Obj)) (s : Shared) (σ : St) (H : Hp) (D : Ends), Inv X pins σ H s → t D σ H → wpAny (model X.prog X.w) X.A (execs st X.env) (SP X pins D) X.xe s
theorem thn {α : Type} {t : Sem α} {Q Q' : α → Shared → Prop} {M : Model} {A : Around} {E : Value → Shared → Prop} {s : Shared} (h : wpAny M A t Q E s) (hQ : ∀ a s, Q a s → Q' a s) : wpAny M A t Q' E s := wpAny_mono h hQ fun _ _ x => x
section
variable {X : Cx}
def tVar (i : Nat) : TE := fun σ H Q => ∃ v, σ[i]? = some (some v) ∧ Q v H
def tC (v : V) : TE := fun _ H Q => Q v H
theorem zjG {i : Nat} {x : Str} {pos : Pos} (hN : X.N[i]? = some x) (hv : Vis X.env.scope x) (hd : (x == ("__debug__" : Str)) = false := by decide) (hcd : (x == ("__classdict__" : Str)) = false := by decide) : PE X (.Name x pos) (tVar i) := by
 intro pins s σ H Q I h
 obtain ⟨v, e, h⟩ := h
 obtain ⟨m, hn, hl⟩ := I.loc
 obtain ⟨u, r, l⟩ := hl i x v hN e hv
 have fin : EP X pins σ Q u s := ⟨v, H, I, r, h⟩
 rcases l with ⟨hk, hm⟩ | ⟨hk, c, hc, hcell⟩
 · exact wpAny_Name (wpAny_loadName_local I.ok.kind hk hn hm fin) hd
 · rcases hk with hk | hk
   · exact wpAny_Name (wpAny_loadName_cell I.ok.kind hk hc hcell fin) hd
   · exact wpAny_Name (wpAny_loadName_free I.ok.kind hk hc hcell fin hcd) hd
theorem zac {i j pos} : PE X (.Constant (.int i) j pos) (tC (.int i)) := fun _ _ _ H _ I h => wpAny_Constant_int ⟨.int i, H, I.tok _, ⟨_, rfl⟩, h⟩
theorem zbB {b j pos} : PE X (.Constant (.bool b) j pos) (tC (.bl b)) := fun _ _ _ H _ I h => Constant_bool ⟨.bl b, H, I, rfl, h⟩
theorem zez {j pos} : PE X (.Constant .none j pos) (tC .non) := fun _ _ _ H _ I h => Constant_none ⟨.non, H, I, rfl, h⟩
theorem zdF {x j pos} : PE X (.Constant (.str x) j pos) (tC (.str x)) := fun _ _ _ H _ I h => Calls.Constant_str ⟨.str x, H, I.tok _, ⟨_, rfl⟩, h⟩
def Gl (X : Cx) (x : Str) : Prop := X.env.kindOf x = some .globalImplicit
theorem zht {E : Value → Shared → Prop} {pins : List (Addr × Obj)} {s : Shared} {σ : St} {H : Hp} {x : Str} {u : Value} {pos : Pos} {Q : Value → Shared → Prop} (I : Inv X pins σ H s) (hg : Gl X x) (hm : X.mg x = some u) (h : Q u s)
 (hd : (x == ("__debug__" : Str)) = false := by decide) : wpAny (model X.prog X.w) X.A (eval (.Name x pos) X.env) Q E s :=
 Calls.Name_function_global I.ok.kind hg (Calls.loadGlobal_global (by rw [I.ok.glob]; exact I.mod.glob.keeps I.bk) hm h) hd
theorem zcX {E : Value → Shared → Prop} {pins : List (Addr × Obj)} {s : Shared} {σ : St} {H : Hp} {x : Str} {u : Value} {pos : Pos} {Q : Value → Shared → Prop} (I : Inv X pins σ H s) (hg : Gl X x) (hm : X.mg x = none) (hv : bootBuiltins x = some u) (h : Q u s)
 (hn : x ≠ "__name__" := by decide) (hd : (x == ("__debug__" : Str)) = false := by decide) : wpAny (model X.prog X.w) X.A (eval (.Name x pos) X.env) Q E s := by
 obtain ⟨mb, h1, h2⟩ := I.mod.blt
 exact Calls.Name_function_global I.ok.kind hg (Calls.loadGlobal_builtin (by rw [I.ok.glob]; exact I.mod.glob.keeps I.bk) hm (by rw [I.ok.blt]; exact h1.keeps I.bk) ((h2 x hn).trans hv) h) hd
theorem zhd {x : Str} {v : V} {u : Value} {pos : Pos} (hg : Gl X x) (hm : X.mg x = some u) (r : RelV v u) (hd : (x == ("__debug__" : Str)) = false := by decide) : PE X (.Name x pos) (tC v) :=
 fun _ _ _ H _ I h => zht I hg hm ⟨v, H, I, r, h⟩ hd
theorem zaD {x : Str} {v : V} {u : Value} {pos : Pos} (hg : Gl X x) (hm : X.mg x = none) (hv : bootBuiltins x = some u) (r : RelV v u) (hn : x ≠ "__name__" := by decide) (hd : (x == ("__debug__" : Str)) = false := by decide) : PE X (.Name x pos) (tC v) :=
 fun _ _ _ H _ I h => zcX I hg hm hv ⟨v, H, I, r, h⟩ hn hd
variable {a b : Expr} {ta tb : TE} {pos : Pos}
def PC (X : Cx) (op : CmpOp) (a b : Expr) (t : TE) : Prop :=
 ∀ (pins : List (Addr × Obj)) (s : Shared) (σ : St) (H : Hp) (Q : VK), Inv X pins σ H s → t σ H Q →
  wpAny (model X.prog X.w) X.A (eval a X.env) (fun v s₁ => wpAny (model X.prog X.w) X.A (eval b X.env) (fun u s₂ => wpAny (model X.prog X.w) X.A (compareOp op v u) (EP X pins σ Q) X.xe s₂) X.xe s₁) X.xe s
theorem zf1 (b : Expr) {op : CmpOp} (h : op ≠ .In) (h2 : op ≠ .NotIn) : behindInMarks op b = false := by
 have e1 : (op == CmpOp.In) = false := by cases op <;> first | rfl | exact absurd rfl h
 have e2 : (op == CmpOp.NotIn) = false := by cases op <;> first | rfl | exact absurd rfl h2
 cases b <;> simp [behindInMarks, e1, e2]
def tIsN (ta : TE) : TE := fun σ H Q => ta σ H fun x H1 => Q (.bl (decide (x = .non))) H1
def zka (ta : TE) : TE := fun σ H Q => ta σ H fun x H1 => Q (.bl (!decide (x = .non))) H1
theorem RelV.none_iff {x : V} {v : Value} (r : RelV x v) : (v == Value.none) = decide (x = .non) := by
 cases x with
 | non => cases r; rfl
 | bl _ => cases r; rfl
 | int _ => obtain ⟨t, rfl⟩ := r; rfl
 | str _ => obtain ⟨t, rfl⟩ := r; rfl
 | byt _ => obtain ⟨t, rfl⟩ := r; rfl
 | flt _ => obtain ⟨t, rfl⟩ := r; rfl
 | ref _ => cases r; rfl
 | ty _ => cases r; rfl
theorem zbC {j pos'} (ha : PE X a ta) : PC X .Is a (.Constant .none j pos') (tIsN ta) := by
 intro pins s σ H Q I h
 refine thn (ha pins s σ H _ I h) fun v s1 ⟨x, H1, I1, r1, q1⟩ => ?_
 exact Constant_none (is_none_gen ⟨.bl _, H1, I1, by rw [r1.none_iff]; rfl, q1⟩)
theorem zdj {j pos'} (ha : PE X a ta) : PC X .IsNot a (.Constant .none j pos') (zka ta) := by
 intro pins s σ H Q I h
 refine thn (ha pins s σ H _ I h) fun v s1 ⟨x, H1, I1, r1, q1⟩ => ?_
 exact Constant_none (isnot_none_gen ⟨.bl _, H1, I1, by rw [r1.none_iff]; rfl, q1⟩)
def tB (t : TE) : TT := fun σ H Q => t σ H fun x H1 => ∃ c, x = .bl c ∧ Q c H1
theorem zck {op : CmpOp} {t : TE} (h : PC X op a b t) (h1 : behindInMarks op b = false := by first | exact zf1 _ (by decide) (by decide) | rfl) : PE X (.Compare a [op] [b] pos) t := fun pins s σ H Q I hw => wpAny_Compare1 (h pins s σ H Q I hw) h1
theorem zcW {op : CmpOp} {t : TE} (h : PC X op a b t) (h1 : behindInMarks op b = false := by first | exact zf1 _ (by decide) (by decide) | rfl) : PT X (.Compare a [op] [b] pos) (tB t) := by
 intro pins s σ H Q I hw
 refine wpAny_isTrue_Compare1 (thn (h pins s σ H _ I hw) fun v s1 h1 => thn h1 fun u s2 h2 => thn h2 fun c s3 ⟨x, H1, I1, r1, q1⟩ => ?_) h1
 obtain ⟨d, rfl, q⟩ := q1
 cases r1
 exact wpAny_truthy_bool ⟨H1, I1, q⟩
theorem zaN {e : Expr} {t : TE} (h : PE X e t) (he : ∀ whole, isTrue e X.env whole = (do let v ← whole; standAt e.pos; holding [v] (truthy v)) := by intro _; rfl) : PT X e (tB t) := by
 intro pins s σ H Q I hw
 refine isTrue_plain (thn (h pins s σ H _ I hw) fun v s1 ⟨x, H1, I1, r1, q1⟩ => ?_) (he _)
 obtain ⟨d, rfl, q⟩ := q1
 cases r1
 exact wpAny_truthy_bool ⟨H1, I1, q⟩
variable {tA tB' : TT} {rest : List Expr}
def tAnd (t u : TT) : TT := fun σ H Q => t σ H fun c H1 => if c = true then u σ H1 Q else Q false H1
def tOr (t u : TT) : TT := fun σ H Q => t σ H fun c H1 => if c = true then Q true H1 else u σ H1 Q
def tNot (t : TT) : TT := fun σ H Q => t σ H fun c H1 => Q (!c) H1
theorem zbY (ha : PT X a tA) : PW X (.BoolOp .And [a] pos) tA := by
 intro wh pins s σ H Q I h
 refine isTrue_and (thn (ha pins s σ H Q I h) fun c s1 e => ?_)
 cases c with
 | true => exact isTrue_and_nil e
 | false => exact e
theorem zbp (ha : PT X a tA) : PW X (.BoolOp .Or [a] pos) tA := by
 intro wh pins s σ H Q I h
 refine isTrue_or (thn (ha pins s σ H Q I h) fun c s1 e => ?_)
 cases c with
 | false => exact isTrue_or_nil e
 | true => exact e
theorem zcw (ha : PT X a tA) (hb : PW X (.BoolOp .And (b :: rest) pos) tB') : PW X (.BoolOp .And (a :: b :: rest) pos) (tAnd tA tB') := by
 intro wh pins s σ H Q I h
 refine isTrue_and (thn (ha pins s σ H _ I h) fun c s1 ⟨H1, I1, q1⟩ => ?_)
 cases c with
 | true => exact hb wh pins s1 σ H1 Q I1 q1
 | false => exact ⟨H1, I1, q1⟩
theorem zbX (ha : PT X a tA) (hb : PW X (.BoolOp .Or (b :: rest) pos) tB') : PW X (.BoolOp .Or (a :: b :: rest) pos) (tOr tA tB') := by
 intro wh pins s σ H Q I h
 refine isTrue_or (thn (ha pins s σ H _ I h) fun c s1 ⟨H1, I1, q1⟩ => ?_)
 cases c with
 | true => exact ⟨H1, I1, q1⟩
 | false => exact hb wh pins s1 σ H1 Q I1 q1
theorem zaR (ha : PT X a tA) : PT X (.UnaryOp .Not a pos) (tNot tA) := by
 intro pins s σ H Q I h
 exact isTrue_not (ha pins s σ H (fun c H1 => Q (!c) H1) I h)
def zkd (ta tb : TE) : TE := fun σ H Q => ta σ H fun x H1 => ∃ c, x = .bl c ∧ if c = true then tb σ H1 Q else Q (.bl false) H1
def tOrV (ta tb : TE) : TE := fun σ H Q => ta σ H fun x H1 => ∃ c, x = .bl c ∧ if c = true then Q (.bl true) H1 else tb σ H1 Q
def zj9 (ta : TE) : TE := fun σ H Q => ta σ H fun x H1 => ∃ c, x = .bl c ∧ Q (.bl (!c)) H1
theorem zbq {op} {t : TE} (h : PE X a t) : PE X (.BoolOp op [a] pos) t := fun pins s σ H Q I hw => BoolOp_one (h pins s σ H Q I hw)
theorem zcz (ha : PE X a ta) (hb : PE X (.BoolOp .And (b :: rest) pos) tb) : PE X (.BoolOp .And (a :: b :: rest) pos) (zkd ta tb) := by
 intro pins s σ H Q I h
 refine BoolOp_and (thn (ha pins s σ H _ I h) fun v s1 ⟨x, H1, I1, r1, q1⟩ => ?_)
 obtain ⟨c, rfl, q1⟩ := q1
 cases r1
 refine wpAny_truthy_bool ?_
 cases c with
 | true => exact hb pins s1 σ H1 Q I1 q1
 | false => exact ⟨.bl false, H1, I1, rfl, q1⟩
theorem zfm (ha : PE X a ta) (hb : PE X (.BoolOp .Or (b :: rest) pos) tb) : PE X (.BoolOp .Or (a :: b :: rest) pos) (tOrV ta tb) := by
 intro pins s σ H Q I h
 refine BoolOp_or (thn (ha pins s σ H _ I h) fun v s1 ⟨x, H1, I1, r1, q1⟩ => ?_)
 obtain ⟨c, rfl, q1⟩ := q1
 cases r1
 refine wpAny_truthy_bool ?_
 cases c with
 | false => exact hb pins s1 σ H1 Q I1 q1
 | true => exact ⟨.bl true, H1, I1, rfl, q1⟩
theorem ziK (ha : PE X a ta) : PE X (.UnaryOp .Not a pos) (zj9 ta) := by
 intro pins s σ H Q I h
 refine UnaryOp_ (thn (ha pins s σ H _ I h) fun v s1 ⟨x, H1, I1, r1, q1⟩ => ?_)
 obtain ⟨c, rfl, q1⟩ := q1
 cases r1
 exact not_of (wpAny_truthy_bool ⟨.bl (!c), H1, I1, rfl, q1⟩)
def tIf (t : TT) (ta tb : TE) : TE := fun σ H Q => t σ H fun c H1 => if c = true then ta σ H1 Q else tb σ H1 Q
theorem zcy {c : Expr} (hc : PT X c tA) (ha : PE X a ta) (hb : PE X b tb) : PE X (.IfExp c a b pos) (tIf tA ta tb) := by
 intro pins s σ H Q I h
 refine wpAny_IfExp (thn (hc pins s σ H _ I h) fun d s1 ⟨H1, I1, q1⟩ => ?_)
 cases d with
 | true => exact ha pins s1 σ H1 Q I1 q1
 | false => exact hb pins s1 σ H1 Q I1 q1
end
def SqL (K : PySem.W.Frag) (H : Hp) (a : Addr) (xs : List V) : Prop :=
 Rd H a (.lst xs) ∨
  ∃ (o : Obj) (its : Array Value) (n : Nat), K.lookup a = some o ∧ o.cls = .type "list" ∧ o.dict = none ∧ o.data = .seq its n ∧ its.size ≤ sizeLine ∧ Vals xs its.toList
def SqT (K : PySem.W.Frag) (H : Hp) (a : Addr) (xs : List V) : Prop :=
 Rd H a (.tup xs) ∨
  ∃ (o : Obj) (its : Array Value) (n : Nat), K.lookup a = some o ∧ o.cls = .type "tuple" ∧ o.data = .seq its n ∧ its.size ≤ sizeLine ∧ Vals xs its.toList
def absV : Value → Option V
 | .none => some .non
 | .bool b => some (.bl b)
 | .int i _ => some (.int i)
 | .str x _ => some (.str x)
 | .bytes b _ => some (.byt b)
 | .float b _ => some (.flt b)
 | .ref a => some (.ref a)
 | .type n => some (.ty n)
 | _ => none
theorem RelV.abs {x : V} {u : Value} (r : RelV x u) : absV u = some x := by
 cases x with
 | non => cases r; rfl
 | bl _ => cases r; rfl
 | int _ => obtain ⟨t, rfl⟩ := r; rfl
 | str _ => obtain ⟨t, rfl⟩ := r; rfl
 | byt _ => obtain ⟨t, rfl⟩ := r; rfl
 | flt _ => obtain ⟨t, rfl⟩ := r; rfl
 | ref _ => cases r; rfl
 | ty _ => cases r; rfl
theorem RelV.inj {x y : V} {u : Value} (r : RelV x u) (q : RelV y u) : x = y := Option.some.inj (r.abs.symm.trans q.abs)
theorem Vals.inj : ∀ {xs ys : List V} {us : List Value}, Vals xs us → Vals ys us → xs = ys
 | _, _, _, .nil, .nil => rfl
 | _, _, _, .cons r t, .cons r' t' => by rw [r.inj r', Vals.inj t t']
section
variable {X : Cx} {pins : List (Addr × Obj)} {σ : St} {H : Hp} {s : Shared} {a : Addr} {xs ys : List V}
theorem SqL.of {K : PySem.W.Frag} (h : H a = some (.lst xs)) : SqL K H a xs := .inl (.inl h)
theorem SqT.of {K : PySem.W.Frag} (h : H a = some (.tup xs)) : SqT K H a xs := .inl (.inl h)
theorem Inv.list (I : Inv X pins σ H s) (h : SqL X.K H a xs) : ∃ its : List Value, Vals xs its ∧ PlainL s.heap a its.toArray ∧ xs.length ≤ sizeLine := by
 rcases h with h | ⟨o, its, n, hk, hc, hd, hs, hz, r⟩
 · obtain ⟨z, its, n, r, e⟩ := h.ok I.hok
   exact ⟨its, r, ⟨_, n, e, rfl, rfl, rfl⟩, z⟩
 · refine ⟨its.toList, r, ⟨o, n, I.kIn a o hk, hc, hd, by simpa using hs⟩, ?_⟩
   have e := r.length
   simp only [Array.length_toList] at e
   omega
theorem Inv.tuple (I : Inv X pins σ H s) (h : SqT X.K H a xs) : ∃ its : List Value, Vals xs its ∧ IsTup s.heap a its.toArray ∧ xs.length ≤ sizeLine := by
 rcases h with h | ⟨o, its, n, hk, hc, hs, hz, r⟩
 · obtain ⟨z, its, r, p⟩ := h.ok I.hok
   exact ⟨its, r, p.tup, z⟩
 · refine ⟨its.toList, r, ⟨o, I.kIn a o hk, hc, n, by simpa using hs⟩, ?_⟩
   have e := r.length
   simp only [Array.length_toList] at e
   omega
theorem Inv.list_inj (I : Inv X pins σ H s) (h : SqL X.K H a xs) (h' : SqL X.K H a ys) : xs = ys := by
 obtain ⟨its, r, ⟨o, n, e, _, _, d⟩, _⟩ := I.list h
 obtain ⟨its', r', ⟨o', n', e', _, _, d'⟩, _⟩ := I.list h'
 rw [e] at e'; cases e'
 rw [d] at d'
 injection d' with d1 _
 have : its = its' := by simpa using congrArg Array.toList d1
 subst this
 exact r.inj r'
theorem Inv.tuple_inj (I : Inv X pins σ H s) (h : SqT X.K H a xs) (h' : SqT X.K H a ys) : xs = ys := by
 obtain ⟨its, r, ⟨o, e, _, n, d⟩, _⟩ := I.tuple h
 obtain ⟨its', r', ⟨o', e', _, n', d'⟩, _⟩ := I.tuple h'
 rw [e] at e'; cases e'
 rw [d] at d'
 injection d' with d1 _
 have : its = its' := by simpa using congrArg Array.toList d1
 subst this
 exact r.inj r'
end
abbrev Cx.wish (X : Cx) (E : Value → Shared → Prop) : Cx := { X with xe := E }
abbrev Cx.nox (X : Cx) : Cx := X.wish fun _ _ => False
theorem Cx.Ok.wish {X : Cx} (ok : X.Ok) (E : Value → Shared → Prop) : (X.wish E).Ok :=
 ⟨ok.mod, ok.kind, ok.glob, ok.blt, ok.above, ok.inj, ok.has, ok.cab, ok.hd, ok.frames, ok.stk, ok.exf, ok.bs, ok.bsz, ok.noex, ok.exfs, ok.funs, ok.frf⟩
theorem Cx.Ok.unwish {X : Cx} {E : Value → Shared → Prop} (ok : (X.wish E).Ok) : X.Ok :=
 ⟨ok.mod, ok.kind, ok.glob, ok.blt, ok.above, ok.inj, ok.has, ok.cab, ok.hd, ok.frames, ok.stk, ok.exf, ok.bs, ok.bsz, ok.noex, ok.exfs, ok.funs, ok.frf⟩
section
variable {X : Cx} {pins : List (Addr × Obj)} {σ : St} {H : Hp} {s : Shared} {E : Value → Shared → Prop}
theorem Inv.wish (I : Inv X pins σ H s) (E : Value → Shared → Prop) : Inv (X.wish E) pins σ H s := ⟨I.ok.wish E, I.os, I.bare, I.base, I.loc, I.cell, I.free, I.freeC, I.pin, I.hok, I.len⟩
theorem Inv.unwish (I : Inv (X.wish E) pins σ H s) : Inv X pins σ H s := ⟨I.ok.unwish, I.os, I.bare, I.base, I.loc, I.cell, I.free, I.freeC, I.pin, I.hok, I.len⟩
theorem SP.unwish {D : Ends} {f : Flow} {s' : Shared} (h : SP (X.wish E) pins D f s') : SP X pins D f s' := by
 cases f with
 | next => obtain ⟨σ', H', I, q⟩ := h; exact ⟨σ', H', I.unwish, q⟩
 | brk => obtain ⟨σ', H', I, q⟩ := h; exact ⟨σ', H', I.unwish, q⟩
 | cont => obtain ⟨σ', H', I, q⟩ := h; exact ⟨σ', H', I.unwish, q⟩
 | ret u => obtain ⟨v, σ', H', I, r, q⟩ := h; exact ⟨v, σ', H', I.unwish, r, q⟩
theorem PSs.nox {st : List Stmt} {t : TS} (h : PSs X.nox st t) : PSs X st t := fun pins s σ H D I hw =>
 wpAny_mono (h pins s σ H D (I.wish _) hw) (fun _ _ q => q.unwish) fun _ _ z => False.elim z
end
section
variable {X : Cx} {st : Stmt} {rest : List Stmt} {t u : TS} {e : Expr} {te : TE} {pos : Pos}
def zkb : TS := fun D σ H => D.nx σ H
def tSeq (t u : TS) : TS := fun D σ H => t { D with nx := u D } σ H
theorem zar : PSs X [] zkb := fun _ _ σ H _ I h => wpAny_execs_nil ⟨σ, H, I, h⟩
theorem zae (h1 : PS X st t) (h2 : PSs X rest u) : PSs X (st :: rest) (tSeq t u) := by
 intro pins s σ H D I h
 refine wpAny_execs_cons (thn (h1 pins s σ H { D with nx := u D } I h) fun f s1 q => ?_)
 cases f with
 | next =>
  obtain ⟨σ', H', I', q⟩ := q
  exact h2 pins s1 σ' H' D I' q
 | ret v => exact q
 | brk => exact q
 | cont => exact q
theorem zaf (h1 : PS X st t) : PSs X [st] t := by
 intro pins s σ H D I h
 refine wpAny_execs_cons (thn (h1 pins s σ H D I h) fun f s1 q => ?_)
 cases f with
 | next => exact wpAny_execs_nil q
 | ret v => exact q
 | brk => exact q
 | cont => exact q
theorem Inv.quiet {pins : List (Addr × Obj)} {σ : St} {H : Hp} {s : Shared} (I : Inv X pins σ H s) : interactive X.env = false := by simp [interactive, I.ok.kind]
def zkc (te : TE) : TS := fun D σ H => te σ H fun _ H1 => D.nx σ H1
theorem zbK (he : PE X e te) (hs : swapsWith e none pos.line X.env = pure false := by rfl) : PS X (.Expr e pos) (zkc te) := by
 intro pins s σ H D I h
 exact wpAny_Expr_any (thn (he pins s σ H _ I h) fun v s1 ⟨x, H1, I1, r1, q1⟩ => ⟨σ, H1, I1, q1⟩) I.quiet hs
def tRet (te : TE) : TS := fun D σ H => te σ H D.rt
theorem zak (he : PE X e te) : PS X (.Return (some e) pos) (tRet te) := by
 intro pins s σ H D I h
 exact wpAny_Return_some (thn (he pins s σ H _ I h) fun v s1 ⟨x, H1, I1, r1, q1⟩ => ⟨x, σ, H1, I1, r1, q1⟩)
def tIfS (c : TT) (t u : TS) : TS := fun D σ H => c σ H fun b H1 => if b = true then t D σ H1 else u D σ H1
theorem zaK {c : Expr} {a b : List Stmt} {tc : TT} (hc : PT X c tc) (ha : PSs X a t) (hb : PSs X b u) : PS X (.If c a b pos) (tIfS tc t u) := by
 intro pins s σ H D I h
 refine wpAny_If (thn (hc pins s σ H _ I h) fun d s1 ⟨H1, I1, q1⟩ => ?_)
 cases d with
 | true => exact ha pins s1 σ H1 D I1 q1
 | false => exact hb pins s1 σ H1 D I1 q1
def zjs : TS := fun _ _ _ => False
theorem zic : PS X st zjs := fun _ _ _ _ _ _ h => h.elim
end
abbrev TG := V → St → Hp → (St → Hp → Prop) → Prop
abbrev TGs := List V → St → Hp → (St → Hp → Prop) → Prop
def PG (X : Cx) (target : Expr) (t : TG) : Prop :=
 ∀ (pins : List (Addr × Obj)) (s : Shared) (σ : St) (H : Hp) (v : V) (u : Value) (Q : St → Hp → Prop), Inv X pins σ H s → RelV v u → t v σ H Q →
  wpAny (model X.prog X.w) X.A (assign target X.env u) (fun _ s' => ∃ σ' H', Inv X pins σ' H' s' ∧ Q σ' H') X.xe s
def PGs (X : Cx) (ts : List Expr) (t : TGs) : Prop :=
 ∀ (pins : List (Addr × Obj)) (s : Shared) (σ : St) (H : Hp) (vs : List V) (us : List Value) (Q : St → Hp → Prop), Inv X pins σ H s → Vals vs us → t vs σ H Q →
  wpAny (model X.prog X.w) X.A (assignInOrder ((assignEach ts X.env).map (·.2)) us) (fun _ s' => ∃ σ' H', Inv X pins σ' H' s' ∧ Q σ' H') X.xe s
abbrev TSet := V → V → V → Hp → (Hp → Prop) → Prop
def PSet (X : Cx) (t : TSet) : Prop :=
 ∀ (pins : List (Addr × Obj)) (s : Shared) (σ : St) (H : Hp) (o i v : V) (ov iv u : Value) (Q : Hp → Prop), Inv X pins σ H s → RelV o ov → RelV i iv → RelV v u → t o i v H Q →
  wpAny (model X.prog X.w) X.A (setItem ov iv u) (fun _ s' => ∃ H', Inv X pins σ H' s' ∧ Q H') X.xe s
section
variable {X : Cx} {pos : Pos}
def zgE (i : Nat) : TG := fun v σ H Q => Q (σ.set i (some v)) H
theorem zas {i : Nat} {x : Str} (hN : X.N.Nodup) (hi : X.N[i]? = some x) (hx : Loc X.env.scope x) (hf : X.fn x = true ∨ X.env.scope.names.lookup x = some .local := by first | exact .inl rfl | exact .inr rfl | assumption) : PG X (.Name x pos) (zgE i) := by
 intro pins s σ H v u Q I r h
 exact wpAny_assign_Name (zfR I hN hi hx r (fun s' I' => ⟨_, H, I', h⟩) hf)
def gNil : TGs := fun vs σ H Q => vs = [] ∧ Q σ H
def zkm (t : TG) (u : TGs) : TGs := fun vs σ H Q => ∃ v r, vs = v :: r ∧ t v σ H fun σ' H' => u r σ' H' Q
theorem zbL : PGs X [] gNil := by
 intro pins s σ H vs us Q I r h
 obtain ⟨e, h⟩ := h
 subst e
 cases r
 exact assignInOrder_nil ⟨σ, H, I, h⟩
theorem zax {e : Expr} {es : List Expr} {t : TG} {u : TGs} (h1 : PG X e t) (h2 : PGs X es u)
 (hs : (assignEach (e :: es) X.env).map (·.2) = assign e X.env :: (assignEach es X.env).map (·.2) := by rfl) : PGs X (e :: es) (zkm t u) := by
 intro pins s σ H vs us Q I r h
 obtain ⟨v, vr, e1, h⟩ := h
 subst e1
 cases r with
 | cons r rr =>
  rw [hs]
  refine assignInOrder_cons (thn (h1 pins s σ H _ _ _ I r h) fun _ s1 ⟨σ1, H1, I1, q1⟩ => ?_)
  exact h2 pins s1 σ1 H1 _ _ Q I1 rr q1
def gTup (K : PySem.W.Frag) (n : Nat) (t : TGs) : TG := fun v σ H Q => ∃ a xs, v = .ref a ∧ SqT K H a xs ∧ xs.length = n ∧ t xs σ H Q
theorem zdh {es : List Expr} {k : Nat} {t : TGs} {n : Nat} (hc : X.calm = true) (h : PGs X es t)
 (hn : (assignEach es X.env).length = n := by rfl) (hst : (assignEach es X.env).findIdx? (·.1) = none := by rfl) : PG X (.Tuple es k pos) (gTup X.K n t) := by
 intro pins s σ H v u Q I r hw
 obtain ⟨a, xs, e1, hq, hl, hw⟩ := hw
 subst e1
 cases r
 obtain ⟨its, rv, ht, hz⟩ := I.tuple hq
 refine assign_Tuple_tuple (I.ok.hd hc) ht (by simp [hn, ← hl, rv.length]) hst fun h' hx => ?_
 have I1 : Inv X pins σ H { s with heap := h' } := I.kept (t' := s.toks) fun b o e => hx b o (Nat.ne_of_lt (Heap.lt_size e)) e
 exact h pins _ σ H xs _ Q I1 (by simpa using rv) hw
def gSub (to ti : TE) (t : TSet) : TG := fun v σ H Q => to σ H fun o H1 => ti σ H1 fun i H2 => t o i v H2 fun H3 => Q σ H3
theorem zhb {o i : Expr} {to ti : TE} {t : TSet} (ho : PE X o to) (hi : PE X i ti) (hs : PSet X t)
 (ha : ∀ v, assign (.Subscript o i pos) X.env v = (do
  let ov ← holding [v] (eval o X.env)
  let iv ← holding [v, ov] (eval i X.env)
  standAt pos
  holding [v, ov, iv] (setItem ov iv v)
  release [v, ov, iv] []) := by intro _; rfl) : PG X (.Subscript o i pos) (gSub to ti t) := by
 intro pins s σ H v u Q I r h
 rw [ha]
 refine wpAny_bind (wpAny_holding (thn (ho pins s σ H _ I h) fun ov s1 ⟨x, H1, I1, r1, q1⟩ => ?_))
 refine wpAny_bind (wpAny_holding (thn (hi pins s1 σ H1 _ I1 q1) fun iv s2 ⟨y, H2, I2, r2, q2⟩ => ?_))
 refine wpAny_bind (wpAny_standAt (wpAny_bind (wpAny_holding (thn (hs pins s2 σ H2 x y v ov iv u _ I2 r1 r2 r q2) fun _ s3 ⟨H3, I3, q3⟩ => ?_))))
 exact wpAny_release ⟨σ, H3, I3, q3⟩
def tAsg (te : TE) (g : TG) : TS := fun D σ H => te σ H fun x H1 => g x σ H1 D.nx
theorem zdg {tg e : Expr} {te : TE} {g : TG} (he : PE X e te) (hg : PG X tg g) (hs : swapsWithSole [tg] e pos.line X.env = pure false := by rfl) (hw : swappedStores [tg] e X.env = pure none := by rfl)
 (h1 : (assignEach [tg] X.env).map (·.2) = [assign tg X.env] := by rfl) : PS X (.Assign [tg] e pos) (tAsg te g) := by
 intro pins s σ H D I h
 refine wpAny_Assign_stores (thn (he pins s σ H _ I h) fun v s1 ⟨x, H1, I1, r1, q1⟩ => ?_) hs hw
 rw [h1]
 exact thn (hg pins s1 σ H1 x v _ I1 r1 q1) fun _ s2 q => q
theorem zaI {i : Nat} {x : Str} {e : Expr} {te : TE} {pos' : Pos} (hN : X.N.Nodup) (hi : X.N[i]? = some x) (hx : Loc X.env.scope x) (he : PE X e te) (hs : swapsWith e (some (.Name x pos')) pos.line X.env = pure false := by rfl) (hf : X.fn x = true ∨ X.env.scope.names.lookup x = some .local := by first | exact .inl rfl | exact .inr rfl | assumption) :
 PS X (.Assign [.Name x pos'] e pos) (tAsg te (zgE i)) := by
 intro pins s σ H D I h
 refine wpAny_Assign_Name (thn (he pins s σ H _ I h) fun v s1 ⟨y, H1, I1, r1, q1⟩ => ?_) hs
 exact zfR I1 hN hi hx r1 (fun s2 I2 => ⟨_, H1, I2, q1⟩) hf
end
section
variable {X : Cx} {pos : Pos}
def ziC (c : TT) (tb : TS) : TS := fun D σ H => ∃ W : Nat → St → Hp → Prop, (∃ m, W m σ H) ∧ ∀ m σ H, W m σ H →
 c σ H fun b H1 => if b = true then ∃ N : St → Hp → Prop, (∀ σ' H', N σ' H' → ∃ m', m' < m ∧ W m' σ' H') ∧ tb { D with nx := N, ct := N, bk := D.nx } σ H1 else D.nx σ H1
theorem zib {c : Expr} {body : List Stmt} {tc : TT} {tb : TS} (hp : PassesOwn (model X.prog X.w) X.A X.env X.xe) (hc : PT X c tc) (hb : PSs X body tb) : PS X (.While c body [] pos) (ziC tc tb) := by
 intro pins s σ H D I h
 obtain ⟨W, ⟨m0, w0⟩, turn⟩ := h
 refine wpAny_While (codeAny_whileLoop (fun n s' => ∃ σ' H', Inv X pins σ' H' s' ∧ W n σ' H') ?_ m0 ⟨σ, H, I, w0⟩)
 rintro n s1 ⟨σ1, H1, I1, w1⟩
 refine wpAny_passesOwn hp (thn (hc pins s1 σ1 H1 _ I1 (turn n σ1 H1 w1)) fun b s2 ⟨H2, I2, q2⟩ => ?_)
 cases b with
 | true =>
  obtain ⟨N, hN, q2⟩ := q2
  rw [if_pos rfl]
  refine wpAny_passesOwn hp (thn (hb pins s2 σ1 H2 _ I2 q2) fun f s3 q3 => ?_)
  cases f with
  | next =>
   obtain ⟨σ3, H3, I3, n3⟩ := q3
   obtain ⟨m', hm, w3⟩ := hN σ3 H3 n3
   exact ⟨m', hm, σ3, H3, I3, w3⟩
  | cont =>
   obtain ⟨σ3, H3, I3, n3⟩ := q3
   obtain ⟨m', hm, w3⟩ := hN σ3 H3 n3
   exact ⟨m', hm, σ3, H3, I3, w3⟩
  | brk => exact q3
  | ret v => exact q3
 | false =>
  rw [if_neg Bool.false_ne_true]
  exact wpAny_execs_nil ⟨σ1, H2, I2, q2⟩
end
structure It where
 go : Nat → Hp → Prop
 yld : Nat → Hp → V → Hp → Prop
 stop : Nat → Hp → Prop
def FpOk (X : Cx) (pins : List (Addr × Obj)) (H : Hp) (b : Addr) : Prop :=
 H b = none ∧ b ≠ X.env.locals ∧ b ∉ X.fs ∧ (b ∈ X.ex ∨ X.s₀.heap.objs.size ≤ b) ∧ (∀ x c, X.env.cells.lookup x = some c → c ≠ b) ∧ ∀ p ∈ X.pn ++ pins, p.1 ≠ b
theorem Inv.fpOk {X : Cx} {pins : List (Addr × Obj)} {σ : St} {H H' : Hp} {s : Shared} {b : Addr} (I : Inv X pins σ H s) (hb : s.heap.objs.size ≤ b) (hn : H' b = none) : FpOk X pins H' b := by
 refine ⟨hn, Nat.ne_of_gt (Nat.lt_of_lt_of_le I.lt hb), I.nofs hb, .inr (Nat.le_trans I.sz hb), fun x c e z => ?_, fun p hp z => ?_⟩
 · obtain ⟨v, q⟩ := I.cell x c e
   exact absurd (Nat.lt_of_lt_of_le q.lt (by rw [z]; exact hb)) (Nat.lt_irrefl _)
 · exact absurd (Nat.lt_of_lt_of_le (Heap.lt_size (I.pin p hp).1) (by rw [z]; exact hb)) (Nat.lt_irrefl _)
structure Turn (P : Program) (w : World) (K : PySem.W.Frag) (tg : Expr) (J : It) (fp : List Addr) (it : Addr) (tn : Nat → Heap → Prop) : Prop where
 mem : it ∈ fp
 obj : ∀ i h, tn i h → ∀ b ∈ fp, ∃ o, h.get? b = some o ∧ ∀ v, o.data ≠ .cell v
 keep : ∀ i h h', tn i h → (∀ b ∈ fp, ∀ o, h.get? b = some o → h'.get? b = some o) → tn i h'
 item : ∀ (X : Cx), X.prog = P → X.w = w → X.K = K → X.calm = true → ∀ (i : Nat) (pins : List (Addr × Obj)) (s : Shared) (σ : St) (H : Hp) (E : Value → Shared → Prop), Inv X pins σ H s → (∀ b ∈ fp, FpOk X pins H b) → tn i s.heap → J.go i H →
  wpAny (model P w) X.A (pyNext (.ref it)) (fun r s1 => ∃ u, r = some u ∧
   wpAny (model P w) X.A (letOwnedTupleGo tg (.ref it) u) (fun _ s2 => ∃ x H', Inv X pins σ H' s2 ∧ RelV x u ∧ J.yld i H x H' ∧ tn (i + 1) s2.heap ∧ ∀ b ∈ fp, H' b = none) E s1) E s
 done : ∀ (X : Cx), X.prog = P → X.w = w → X.K = K → X.calm = true → ∀ (i : Nat) (pins : List (Addr × Obj)) (s : Shared) (σ : St) (H : Hp) (E : Value → Shared → Prop), Inv X pins σ H s → (∀ b ∈ fp, FpOk X pins H b) → tn i s.heap → J.stop i H →
  wpAny (model P w) X.A (pyNext (.ref it)) (fun r s1 => r = none ∧ Inv X pins σ H s1) E s
 self : ∀ (A : Around) (i : Nat) (s : Shared) (Q : Value → Shared → Prop) (E : Value → Shared → Prop), tn i s.heap → Q (.ref it) s → wpAny (model P w) A (pyIter (.ref it)) Q E s
abbrev TI := St → Hp → (It → Hp → Prop) → Prop
def PIE (X : Cx) (pins : List (Addr × Obj)) (σ : St) (tg : Expr) (R : It → Hp → Prop) (itv : Value) (s2 : Shared) : Prop :=
 ∃ (it : Addr) (fp : List Addr) (tn : Nat → Heap → Prop) (J : It) (H' : Hp), itv = .ref it ∧ Inv X pins σ H' s2 ∧ Turn X.prog X.w X.K tg J fp it tn ∧ tn 0 s2.heap ∧ (∀ b ∈ fp, FpOk X pins H' b) ∧ R J H'
def PI (X : Cx) (tg iter : Expr) (wi : TI) : Prop :=
 ∀ (pins : List (Addr × Obj)) (s : Shared) (σ : St) (H : Hp) (R : It → Hp → Prop), Inv X pins σ H s → wi σ H R →
  wpAny (model X.prog X.w) X.A (eval iter X.env) (fun v s1 => wpAny (model X.prog X.w) X.A (pyIter v) (PIE X pins σ tg R) X.xe s1) X.xe s
theorem zhK {M : Model} {A : Around} {E : Value → Shared → Prop} {s : Shared} {tg : Expr} {it : Addr} {u : Value} {o : Obj} {n : String} {vs : Array Value} {Q : Unit → Shared → Prop} (ho : s.heap.get? it = some o) (hc : o.cls = .type n) (hd : o.data = .fields vs)
 (hn : ["enumerate", "zip", "dict_itemiterator", "dict_reverseitemiterator", "odict_iterator", "itertools.zip_longest", "itertools.pairwise"].contains n = false) (hQ : Q () s) : wpAny M A (letOwnedTupleGo tg (.ref it) u) Q E s := by
 unfold letOwnedTupleGo
 cases tg <;> first
  | exact wpAny_pure hQ
  | (cases u <;> first
   | exact wpAny_pure hQ
   | (refine wpAny_bind (wpAny_load ho ?_)
      rw [hc, hd]
      show wpAny M A (if (["enumerate", "zip", "dict_itemiterator", "dict_reverseitemiterator", "odict_iterator", "itertools.zip_longest", "itertools.pairwise"].contains n && vs[0]? == some (rawInt _)) = true then _ else _) Q E s
      rw [if_neg (by intro h; rw [hn, Bool.false_and] at h; cases h)]
      exact wpAny_pure hQ))
def Itl (K : PySem.W.Frag) (a : Addr) : It :=
 ⟨fun i H => ∃ xs x, SqL K H a xs ∧ xs[i]? = some x, fun i H x H' => H' = H ∧ ∀ xs, SqL K H a xs → xs[i]? = some x, fun i H => ∃ xs, SqL K H a xs ∧ xs.length ≤ i⟩
def Itt (K : PySem.W.Frag) (a : Addr) : It :=
 ⟨fun i H => ∃ xs x, SqT K H a xs ∧ xs[i]? = some x, fun i H x H' => H' = H ∧ ∀ xs, SqT K H a xs → xs[i]? = some x, fun i H => ∃ xs, SqT K H a xs ∧ xs.length ≤ i⟩
def Itr (lo : Int) (n : Nat) : It := ⟨fun i _ => i < n, fun i H x H' => H' = H ∧ x = .int (lo + i), fun i _ => n ≤ i⟩
theorem zgJ {P : Program} {w : World} {K : PySem.W.Frag} {tg : Expr} (a it : Addr) : Turn P w K tg (Itl K a) [it] it (fun i h => h.IsListIter it a i) where
 mem := by simp
 obj := fun i h st b hb => by
  have e : b = it := by simpa using hb
  subst e
  obtain ⟨o, e, c, d⟩ := st
  exact ⟨o, e, fun v z => by rw [d] at z; cases z⟩
 keep := fun i h h' st k => st.at fun o e => k it (by simp) o e
 item := by
  intro X hP hw hK hc i pins s σ H E I hf st hg
  subst hP hw hK
  obtain ⟨xs, x, hq, hx⟩ := hg
  obtain ⟨its, rv, p, hz⟩ := I.list hq
  obtain ⟨u, hu, ru⟩ := rv.get hx
  obtain ⟨f0, f1, f2, f3, f4, f5⟩ := hf it (by simp)
  refine wpAny_pyNext_list_item st p.isList (x := u) (by simpa using hu) fun h' st' sb => ?_
  have I1 : Inv X pins σ H { s with heap := h' } := I.turned (t' := s.toks) (fun b o hb e => (sb.2 b hb).trans e) f0 f1 f3 f4 f5
  obtain ⟨o, e, c, d⟩ := id st'
  exact ⟨u, rfl, zhK (s := { s with heap := h' }) e c d (by decide) ⟨x, H, I1, ru, ⟨rfl, fun ys hy => by rw [I.list_inj hy hq]; exact hx⟩, st', fun b hb => (hf b hb).1⟩⟩
 done := by
  intro X hP hw hK hc i pins s σ H E I hf st hg
  subst hP hw hK
  obtain ⟨xs, hq, hx⟩ := hg
  obtain ⟨its, rv, p, hz⟩ := I.list hq
  obtain ⟨f0, f1, f2, f3, f4, f5⟩ := hf it (by simp)
  have hl := rv.length
  exact wpAny_pyNext_list_end (I.ok.hd hc) st p.isList (by simp; omega) fun h' eb => ⟨rfl, I.turned (t' := s.toks) (fun b o hb e => eb b o hb e) f0 f1 f3 f4 f5⟩
 self := fun _ _ _ _ _ st h => wpAny_pyIter_listiter st h
theorem zgm {P : Program} {w : World} {K : PySem.W.Frag} {tg : Expr} (a it : Addr) : Turn P w K tg (Itt K a) [it] it (fun i h => h.IsTupleIter it a i) where
 mem := by simp
 obj := fun i h st b hb => by
  have e : b = it := by simpa using hb
  subst e
  obtain ⟨o, e, c, d⟩ := st
  exact ⟨o, e, fun v z => by rw [d] at z; cases z⟩
 keep := fun i h h' st k => st.at fun o e => k it (by simp) o e
 item := by
  intro X hP hw hK hc i pins s σ H E I hf st hg
  subst hP hw hK
  obtain ⟨xs, x, hq, hx⟩ := hg
  obtain ⟨its, rv, p, hz⟩ := I.tuple hq
  obtain ⟨u, hu, ru⟩ := rv.get hx
  obtain ⟨f0, f1, f2, f3, f4, f5⟩ := hf it (by simp)
  refine wpAny_pyNext_tuple_item st (show s.heap.IsTuple a its.toArray from p) (x := u) (by simpa using hu) fun h' st' sb => ?_
  have I1 : Inv X pins σ H { s with heap := h' } := I.turned (t' := s.toks) (fun b o hb e => (sb.2 b hb).trans e) f0 f1 f3 f4 f5
  obtain ⟨o, e, c, d⟩ := id st'
  exact ⟨u, rfl, zhK (s := { s with heap := h' }) e c d (by decide) ⟨x, H, I1, ru, ⟨rfl, fun ys hy => by rw [I.tuple_inj hy hq]; exact hx⟩, st', fun b hb => (hf b hb).1⟩⟩
 done := by
  intro X hP hw hK hc i pins s σ H E I hf st hg
  subst hP hw hK
  obtain ⟨xs, hq, hx⟩ := hg
  obtain ⟨its, rv, p, hz⟩ := I.tuple hq
  obtain ⟨f0, f1, f2, f3, f4, f5⟩ := hf it (by simp)
  have hl := rv.length
  exact wpAny_pyNext_tuple_end (I.ok.hd hc) st (show s.heap.IsTuple a its.toArray from p) (by simp; omega) fun h' eb => ⟨rfl, I.turned (t' := s.toks) (fun b o hb e => eb b o hb e) f0 f1 f3 f4 f5⟩
 self := fun _ _ _ _ _ st h => wpAny_pyIter_tupleiter st h
theorem zgn {P : Program} {w : World} {K : PySem.W.Frag} {tg : Expr} (it : Addr) (lo : Int) (n : Nat) : Turn P w K tg (Itr lo n) [it] it (fun i h => IsRangeIter h it (lo + (i : Nat) * 1) ((n : Int) - (i : Nat)) 1) where
 mem := by simp
 obj := fun i h st b hb => by
  have e : b = it := by simpa using hb
  subst e
  exact ⟨_, st, fun v z => by
   have z' : Data.fields _ = Data.cell v := z
   cases z'⟩
 keep := fun i h h' st k => k it (by simp) _ st
 item := by
  intro X hP hw hK hc i pins s σ H E I hf st hg
  subst hP hw hK
  obtain ⟨f0, f1, f2, f3, f4, f5⟩ := hf it (by simp)
  have W := Walks.range (prog := X.prog) (w := X.w) (I.ok.hd hc) it lo 1 n
  refine W.item i s _ _ hg st fun v h' tk hv st' kk => ?_
  obtain ⟨t, rfl⟩ := hv
  have I1 : Inv X pins σ H { s with heap := h', toks := tk } := I.turned (fun b o hb e => kk b o (by simpa using hb) e) f0 f1 f3 f4 f5
  refine ⟨_, rfl, zhK (s := { s with heap := h', toks := tk }) (n := "range_iterator") st' rfl rfl (by decide) ⟨.int (lo + i), H, I1, ⟨t, ?_⟩, ⟨rfl, rfl⟩, st', fun b hb => (hf b hb).1⟩⟩
  rw [Int.mul_one]
 done := by
  intro X hP hw hK hc i pins s σ H E I hf st hg
  subst hP hw hK
  obtain ⟨f0, f1, f2, f3, f4, f5⟩ := hf it (by simp)
  exact wpAny_pyNext_range_end (I.ok.hd hc) st (by have : n ≤ i := hg; omega) fun h' eb => ⟨rfl, I.turned (t' := s.toks) (fun b o hb e => eb b o hb e) f0 f1 f3 f4 f5⟩
 self := fun _ _ _ _ _ st h => wpAny_pyIter_rangeiter st h
section
variable {X : Cx} {tg : Expr}
def zkl (K : PySem.W.Frag) (tl : TE) : TI := fun σ H R => tl σ H fun x H1 => ∃ a, x = .ref a ∧ (∃ xs, SqL K H1 a xs) ∧ R (Itl K a) H1
def iTup (K : PySem.W.Frag) (tl : TE) : TI := fun σ H R => tl σ H fun x H1 => ∃ a, x = .ref a ∧ (∃ xs, SqT K H1 a xs) ∧ R (Itt K a) H1
theorem zcr {l : Expr} {tl : TE} (hl : PE X l tl) : PI X tg l (zkl X.K tl) := by
 intro pins s σ H R I h
 refine thn (hl pins s σ H _ I h) fun v s1 ⟨x, H1, I1, r1, q1⟩ => ?_
 obtain ⟨a, e, ⟨xs, hq⟩, q⟩ := q1
 subst e
 cases r1
 obtain ⟨its, rv, p, hz⟩ := I1.list hq
 refine wpAny_pyIter_list p.isList ?_
 refine ⟨s1.heap.objs.size, [s1.heap.objs.size], _, _, H1, rfl, I1.kept (t' := s1.toks) fun b o e => Heap.get?_push_of_some _ e, zgJ a _, ⟨_, Heap.get?_push_size _ rfl, rfl, rfl⟩, fun b hb => ?_, q⟩
 have e : b = s1.heap.objs.size := by simpa using hb
 subst e
 exact I1.fpOk (Nat.le_refl _) (I1.hok.fresh (Nat.le_refl _))
theorem zg9 {l : Expr} {tl : TE} (hl : PE X l tl) : PI X tg l (iTup X.K tl) := by
 intro pins s σ H R I h
 refine thn (hl pins s σ H _ I h) fun v s1 ⟨x, H1, I1, r1, q1⟩ => ?_
 obtain ⟨a, e, ⟨xs, hq⟩, q⟩ := q1
 subst e
 cases r1
 obtain ⟨its, rv, p, hz⟩ := I1.tuple hq
 refine wpAny_pyIter_tuple (show s1.heap.IsTuple a its.toArray from p) ?_
 refine ⟨s1.heap.objs.size, [s1.heap.objs.size], _, _, H1, rfl, I1.kept (t' := s1.toks) fun b o e => Heap.get?_push_of_some _ e, zgm a _, ⟨_, Heap.get?_push_size _ rfl, rfl, rfl⟩, fun b hb => ?_, q⟩
 have e : b = s1.heap.objs.size := by simpa using hb
 subst e
 exact I1.fpOk (Nat.le_refl _) (I1.hok.fresh (Nat.le_refl _))
theorem zh7 {pins : List (Addr × Obj)} {σ : St} {H : Hp} {s : Shared} {R : It → Hp → Prop} {E : Value → Shared → Prop} {lo hi : Int} {t u v : Tok} {tk : Nat} (I : Inv X pins σ H s) (h1 : -(2 ^ 62) ≤ lo) (h2 : lo < 2 ^ 62) (h3 : -(2 ^ 62) ≤ hi) (h4 : hi < 2 ^ 62)
 (q : R (Itr lo (hi - lo).toNat) H) : wpAny (model X.prog X.w) X.A (pyIter (.ref s.heap.objs.size)) (PIE X pins σ tg R) E { s with heap := s.heap.push { cls := .type "range", data := .fields #[.int lo t, .int hi u, .int 1 v] }, toks := tk } := by
 refine wpAny_pyIter_range (IsRange.new ..) (small_one h1 h2 h3 h4) ?_
 have I1 : Inv X pins σ H { s with heap := s.heap.push { cls := .type "range", data := .fields #[.int lo t, .int hi u, .int 1 v] }, toks := tk } := I.kept fun b o e => Heap.get?_push_of_some _ e
 refine ⟨(s.heap.push { cls := .type "range", data := .fields #[.int lo t, .int hi u, .int 1 v] }).objs.size, [(s.heap.push { cls := .type "range", data := .fields #[.int lo t, .int hi u, .int 1 v] }).objs.size], _, _, H, rfl,
  I1.kept (t' := tk) fun b o e => Heap.get?_push_of_some _ e, zgn _ lo (hi - lo).toNat, ?_, fun b hb => ?_, q⟩
 · have e1 : lo + ((0 : Nat) : Int) * 1 = lo := by simp
   have e2 : (((hi - lo).toNat : Nat) : Int) - ((0 : Nat) : Int) = Builtin.Range.rangeSize lo hi 1 := by rw [rangeSize_one]; split <;> omega
   show IsRangeIter _ _ (lo + ((0 : Nat) : Int) * 1) ((((hi - lo).toNat : Nat) : Int) - ((0 : Nat) : Int)) 1
   rw [e1, e2]
   exact Heap.get?_push_size _ rfl
 · have e : b = (s.heap.push { cls := .type "range", data := .fields #[.int lo t, .int hi u, .int 1 v] }).objs.size := by simpa using hb
   subst e
   exact I1.fpOk (Nat.le_refl _) (I1.hok.fresh (Nat.le_refl _))
def zkk (ta : TA) : TI := fun σ H R => ta σ H fun vs H1 => ∃ j : Int, vs = [.int j] ∧ -(2 ^ 62) ≤ j ∧ j < 2 ^ 62 ∧ R (Itr 0 j.toNat) H1
theorem zbl {a : Expr} {ta : TA} {p pos : Pos} (hg : Gl X "range") (hm : X.mg "range" = none) (ha : PA X [a] ta) (hs : starEach [a] X.env = [(false, eval a X.env)] := by rfl) : PI X tg (.Call (.Name "range" p) [a] [] pos) (zkk ta) := by
 intro pins s σ H R I h
 refine Call_ (zcX I hg hm boot_range (PyProof.Rows.callWith_type1 (thn (ha pos pins s σ H _ I h) fun us s1 ⟨vs, H1, I1, r1, q1⟩ => ?_) hs rfl))
 obtain ⟨j, e, q1, q2, q⟩ := q1
 subst e
 cases r1 with
 | cons r rr =>
  cases rr
  obtain ⟨t, rfl⟩ := r
  exact call_range_1 (zh7 I1 (by omega) (by omega) q1 q2 (by simpa using q))
def tFor (wi : TI) (g : TG) (tb : TS) : TS := fun D σ H => wi σ H fun J H1 => ∃ W : Nat → Nat → St → Hp → Prop, (∃ m, W 0 m σ H1) ∧ ∀ i m σ H, W i m σ H →
 (J.stop i H ∧ D.nx σ H) ∨ (J.go i H ∧ ∃ N : St → Hp → Prop, (∀ σ' H', N σ' H' → ∃ m', m' < m ∧ W (i + 1) m' σ' H') ∧ ∀ x H', J.yld i H x H' → g x σ H' fun σ2 H2 => tb { D with nx := N, ct := N, bk := D.nx } σ2 H2)
def zex (fp : List Addr) (h : Heap) : List (Addr × Obj) := fp.filterMap fun b => (h.get? b).map fun o => (b, o)
theorem zch {fp : List Addr} {h : Heap} {b : Addr} {o : Obj} (hb : b ∈ fp) (e : h.get? b = some o) : (b, o) ∈ zex fp h := List.mem_filterMap.mpr ⟨b, hb, by rw [e]; rfl⟩
theorem zhi {fp : List Addr} {h : Heap} {p : Addr × Obj} (hp : p ∈ zex fp h) : p.1 ∈ fp ∧ h.get? p.1 = some p.2 := by
 obtain ⟨b, hb, e⟩ := List.mem_filterMap.mp hp
 cases q : h.get? b with
 | none => rw [q] at e; cases e
 | some o =>
  rw [q] at e
  have e' : (b, o) = p := Option.some.inj e
  subst e'
  exact ⟨hb, q⟩
theorem Inv.pinned {pins : List (Addr × Obj)} {σ : St} {H : Hp} {s : Shared} {fp : List Addr} (I : Inv X pins σ H s) (hf : ∀ b ∈ fp, FpOk X pins H b) (ho : ∀ b ∈ fp, ∃ o, s.heap.get? b = some o ∧ ∀ v, o.data ≠ .cell v) : Inv X (pins ++ zex fp s.heap) σ H s :=
 I.pins_of fun p hp => (List.mem_append.mp hp).elim (fun z => I.pin p (List.mem_append_right _ z)) fun z => by
  obtain ⟨hb, e⟩ := zhi z
  obtain ⟨f0, f1, f2, _⟩ := hf p.1 hb
  obtain ⟨o, e', d⟩ := ho p.1 hb
  rw [e] at e'; cases e'
  exact ⟨e, f0, f1, f2, d⟩
theorem Inv.unpinned {pins pl : List (Addr × Obj)} {σ : St} {H : Hp} {s : Shared} (I : Inv X (pins ++ pl) σ H s) : Inv X pins σ H s := I.pins_of fun p hp => I.pin p (List.mem_append_right _ (List.mem_append_left _ hp))
theorem zcx {iter : Expr} {body : List Stmt} {wi : TI} {g : TG} {tb : TS} {pos : Pos} (hp : PassesOwn (model X.prog X.w) X.A X.env X.xe) (hc : X.calm = true) (hi : PI X tg iter wi) (hg : PG X tg g) (hb : PSs X body tb)
 (hs : ∀ x, foldedSetIterable iter X.env x = pure x := by intro _; rfl) : PS X (.For tg iter body [] pos) (tFor wi g tb) := by
 intro pins s σ H D I h
 refine wpAny_For (thn (hi pins s σ H _ I h) fun v s1 h1 => thn h1 fun itv s2 h2 => ?_) hs
 obtain ⟨it, fp, tn, J, H2, e, I2, T, st2, f2, W, ⟨m0, w0⟩, turn⟩ := h2
 subst e
 have stat : ∀ {H' : Hp}, (∀ b ∈ fp, H' b = none) → ∀ b ∈ fp, FpOk X pins H' b := fun hn b hb => ⟨hn b hb, (f2 b hb).2⟩
 refine codeAny_forLoop_any (fun n s' => ∃ i σ' H', Inv X pins σ' H' s' ∧ tn i s'.heap ∧ (∀ b ∈ fp, H' b = none) ∧ W i n σ' H') ?_ m0 ⟨0, σ, H2, I2, st2, fun b hb => (f2 b hb).1, w0⟩
 rintro n s3 ⟨i, σ3, H3, I3, st3, fr3, w3⟩
 rcases turn i n σ3 H3 w3 with ⟨stop, qn⟩ | ⟨go, N, hN, step⟩
 · refine wpAny_passesOwn hp (thn (T.done X rfl rfl rfl hc i pins s3 σ3 H3 X.xe I3 (stat fr3) st3 stop) fun r s4 ⟨hr, I4⟩ => ?_)
   subst hr
   exact wpAny_execs_nil ⟨σ3, H3, I4, qn⟩
 · refine wpAny_passesOwn hp (thn (T.item X rfl rfl rfl hc i pins s3 σ3 H3 X.xe I3 (stat fr3) st3 go) fun r s4 ⟨u, hr, h4⟩ => ?_)
   subst hr
   refine wpAny_passesOwn hp (thn h4 fun _ s5 ⟨x, H5, I5, r5, y5, st5, fr5⟩ => ?_)
   have I5' := I5.pinned (stat fr5) (T.obj _ _ st5)
   refine wpAny_passesOwn hp (thn (hg _ s5 σ3 H5 x u _ I5' r5 (step x H5 y5)) fun _ s6 ⟨σ6, H6, I6, q6⟩ => ?_)
   refine wpAny_passesOwn hp (thn (hb _ s6 σ6 H6 _ I6 q6) fun f s7 q7 => ?_)
   have again : ∀ {σ7 : St} {H7 : Hp}, Inv X (pins ++ zex fp s5.heap) σ7 H7 s7 → N σ7 H7 → ∃ m, m < n ∧ ∃ i σ' H', Inv X pins σ' H' s7 ∧ tn i s7.heap ∧ (∀ b ∈ fp, H' b = none) ∧ W i m σ' H' := fun {σ7 H7} I7 n7 => by
    obtain ⟨m', hm, w7⟩ := hN σ7 H7 n7
    refine ⟨m', hm, i + 1, σ7, H7, I7.unpinned, T.keep _ _ _ st5 fun b hb o e => (I7.pin (b, o) (List.mem_append_right _ (List.mem_append_right _ (zch hb e)))).1, fun b hb => ?_, w7⟩
    obtain ⟨o, e, d⟩ := T.obj _ _ st5 b hb
    exact (I7.pin (b, o) (List.mem_append_right _ (List.mem_append_right _ (zch hb e)))).2.1
   cases f with
   | next => obtain ⟨σ7, H7, I7, n7⟩ := q7; exact again I7 n7
   | cont => obtain ⟨σ7, H7, I7, n7⟩ := q7; exact again I7 n7
   | brk => obtain ⟨σ7, H7, I7, q7⟩ := q7; exact ⟨σ7, H7, I7.unpinned, q7⟩
   | ret v => obtain ⟨x7, σ7, H7, I7, r7, q7⟩ := q7; exact ⟨x7, σ7, H7, I7.unpinned, r7, q7⟩
end
theorem zc6 {K : PySem.W.Frag} {a : Addr} {xs : List V} {g : TG} {tb : TS} {D : Ends} {σ : St} {H : Hp} (Pv : Nat → St → Hp → Prop) (h0 : Pv 0 σ H) (hl : ∀ i σ H, i ≤ xs.length → Pv i σ H → SqL K H a xs)
 (hs : ∀ i x σ H, xs[i]? = some x → Pv i σ H → g x σ H fun σ2 H2 => tb { D with nx := Pv (i + 1), ct := Pv (i + 1), bk := D.nx } σ2 H2) (hd : ∀ σ H, Pv xs.length σ H → D.nx σ H) :
 ∃ W : Nat → Nat → St → Hp → Prop, (∃ m, W 0 m σ H) ∧ ∀ i m σ H, W i m σ H →
  ((Itl K a).stop i H ∧ D.nx σ H) ∨ ((Itl K a).go i H ∧ ∃ N : St → Hp → Prop, (∀ σ' H', N σ' H' → ∃ m', m' < m ∧ W (i + 1) m' σ' H') ∧ ∀ x H', (Itl K a).yld i H x H' → g x σ H' fun σ2 H2 => tb { D with nx := N, ct := N, bk := D.nx } σ2 H2) := by
 refine ⟨fun i m σ H => m = xs.length - i ∧ i ≤ xs.length ∧ Pv i σ H, ⟨xs.length, by simp, Nat.zero_le _, h0⟩, ?_⟩
 rintro i m σ H ⟨rfl, hi, p⟩
 have q := hl i σ H hi p
 by_cases hlt : i < xs.length
 · refine .inr ⟨⟨xs, xs[i], q, by simp [hlt]⟩, Pv (i + 1), fun σ' H' p' => ⟨xs.length - (i + 1), by omega, rfl, hlt, p'⟩, fun x H' y => ?_⟩
   obtain ⟨e, y⟩ := y
   subst e
   exact hs i x σ _ (y xs q) p
 · have e : i = xs.length := by omega
   subst e
   exact .inl ⟨⟨xs, q, Nat.le_refl _⟩, hd σ H p⟩
theorem zjj {K : PySem.W.Frag} {a : Addr} {xs : List V} {g : TG} {tb : TS} {D : Ends} {σ : St} {H : Hp} (Pv : Nat → St → Hp → Prop) (h0 : Pv 0 σ H) (hl : ∀ i σ H, i ≤ xs.length → Pv i σ H → SqT K H a xs)
 (hs : ∀ i x σ H, xs[i]? = some x → Pv i σ H → g x σ H fun σ2 H2 => tb { D with nx := Pv (i + 1), ct := Pv (i + 1), bk := D.nx } σ2 H2) (hd : ∀ σ H, Pv xs.length σ H → D.nx σ H) :
 ∃ W : Nat → Nat → St → Hp → Prop, (∃ m, W 0 m σ H) ∧ ∀ i m σ H, W i m σ H →
  ((Itt K a).stop i H ∧ D.nx σ H) ∨ ((Itt K a).go i H ∧ ∃ N : St → Hp → Prop, (∀ σ' H', N σ' H' → ∃ m', m' < m ∧ W (i + 1) m' σ' H') ∧ ∀ x H', (Itt K a).yld i H x H' → g x σ H' fun σ2 H2 => tb { D with nx := N, ct := N, bk := D.nx } σ2 H2) := by
 refine ⟨fun i m σ H => m = xs.length - i ∧ i ≤ xs.length ∧ Pv i σ H, ⟨xs.length, by simp, Nat.zero_le _, h0⟩, ?_⟩
 rintro i m σ H ⟨rfl, hi, p⟩
 have q := hl i σ H hi p
 by_cases hlt : i < xs.length
 · refine .inr ⟨⟨xs, xs[i], q, by simp [hlt]⟩, Pv (i + 1), fun σ' H' p' => ⟨xs.length - (i + 1), by omega, rfl, hlt, p'⟩, fun x H' y => ?_⟩
   obtain ⟨e, y⟩ := y
   subst e
   exact hs i x σ _ (y xs q) p
 · have e : i = xs.length := by omega
   subst e
   exact .inl ⟨⟨xs, q, Nat.le_refl _⟩, hd σ H p⟩
theorem zds {lo : Int} {n : Nat} {g : TG} {tb : TS} {D : Ends} {σ : St} {H : Hp} (Pv : Nat → St → Hp → Prop) (h0 : Pv 0 σ H)
 (hs : ∀ i σ H, i < n → Pv i σ H → g (.int (lo + i)) σ H fun σ2 H2 => tb { D with nx := Pv (i + 1), ct := Pv (i + 1), bk := D.nx } σ2 H2) (hd : ∀ σ H, Pv n σ H → D.nx σ H) :
 ∃ W : Nat → Nat → St → Hp → Prop, (∃ m, W 0 m σ H) ∧ ∀ i m σ H, W i m σ H →
  ((Itr lo n).stop i H ∧ D.nx σ H) ∨ ((Itr lo n).go i H ∧ ∃ N : St → Hp → Prop, (∀ σ' H', N σ' H' → ∃ m', m' < m ∧ W (i + 1) m' σ' H') ∧ ∀ x H', (Itr lo n).yld i H x H' → g x σ H' fun σ2 H2 => tb { D with nx := N, ct := N, bk := D.nx } σ2 H2) := by
 refine ⟨fun i m σ H => m = n - i ∧ i ≤ n ∧ Pv i σ H, ⟨n, by simp, Nat.zero_le _, h0⟩, ?_⟩
 rintro i m σ H ⟨rfl, hi, p⟩
 by_cases hlt : i < n
 · refine .inr ⟨hlt, Pv (i + 1), fun σ' H' p' => ⟨n - (i + 1), by omega, rfl, hlt, p'⟩, fun x H' y => ?_⟩
   obtain ⟨e, y⟩ := y
   subst e y
   exact hs i σ _ hlt p
 · have e : i = n := by omega
   subst e
   exact .inl ⟨Nat.le_refl _, hd σ H p⟩
abbrev R2 := V → V → Hp → VK → Prop
def OpR (X : Cx) (f : Value → Value → Sem Value) (r : R2) : Prop :=
 ∀ (pins : List (Addr × Obj)) (s : Shared) (σ : St) (H : Hp) (x y : V) (v u : Value) (Q : VK), Inv X pins σ H s → RelV x v → RelV y u → r x y H Q →
  wpAny (model X.prog X.w) X.A (f v u) (EP X pins σ Q) X.xe s
def UnR (X : Cx) (f : Value → Sem Value) (r : V → Hp → VK → Prop) : Prop :=
 ∀ (pins : List (Addr × Obj)) (s : Shared) (σ : St) (H : Hp) (x : V) (v : Value) (Q : VK), Inv X pins σ H s → RelV x v → r x H Q →
  wpAny (model X.prog X.w) X.A (f v) (EP X pins σ Q) X.xe s
def zdw (X : Cx) (f : Value) (r : List V → Hp → VK → Prop) : Prop :=
 ∀ (pins : List (Addr × Obj)) (s : Shared) (σ : St) (H : Hp) (xs : List V) (us : List Value) (Q : VK), Inv X pins σ H s → Vals xs us → r xs H Q →
  wpAny (model X.prog X.w) X.A (call f us) (EP X pins σ Q) X.xe s
def tOp (r : R2) (ta tb : TE) : TE := fun σ H Q => ta σ H fun x H1 => tb σ H1 fun y H2 => r x y H2 Q
def tUn (r : V → Hp → VK → Prop) (ta : TE) : TE := fun σ H Q => ta σ H fun x H1 => r x H1 Q
def rI (C : Int → Int → Prop) (g : Int → Int → V) : R2 := fun x y H Q => ∃ i j, x = .int i ∧ y = .int j ∧ C i j ∧ Q (g i j) H
def rI0 (g : Int → Int → V) : R2 := fun x y H Q => ∃ i j, x = .int i ∧ y = .int j ∧ Q (g i j) H
def rU (g : Int → V) : V → Hp → VK → Prop := fun x H Q => ∃ i, x = .int i ∧ Q (g i) H
section
variable {X : Cx} {a b c : Expr} {ta tb tc : TE} {pos : Pos}
theorem binT (ha : PE X a ta) (hb : PE X b tb) {pins : List (Addr × Obj)} {s : Shared} {σ : St} {H : Hp} {R : V → V → Hp → Prop} (I : Inv X pins σ H s)
 (h : ta σ H fun x H1 => tb σ H1 fun y H2 => R x y H2) {Q : Value → Shared → Prop} {f : Value → Value → Sem Value}
 (hf : ∀ v u s2 x y H2, Inv X pins σ H2 s2 → RelV x v → RelV y u → R x y H2 → wpAny (model X.prog X.w) X.A (f v u) Q X.xe s2) :
 wpAny (model X.prog X.w) X.A (eval a X.env) (fun v s₁ => wpAny (model X.prog X.w) X.A (eval b X.env) (fun u s₂ => wpAny (model X.prog X.w) X.A (f v u) Q X.xe s₂) X.xe s₁) X.xe s := by
 refine thn (ha pins s σ H _ I h) fun v s1 ⟨x, H1, I1, r1, q1⟩ => ?_
 refine thn (hb pins s1 σ H1 _ I1 q1) fun u s2 ⟨y, H2, I2, r2, q2⟩ => ?_
 exact hf v u s2 x y H2 I2 r1 r2 q2
theorem zaC {op : Operator} {r : R2} (ho : OpR X (binaryOp op) r) (ha : PE X a ta) (hb : PE X b tb) : PE X (.BinOp a op b pos) (tOp r ta tb) := by
 intro pins s σ H Q I h
 exact wpAny_BinOp (binT ha hb I h fun v u s2 x y H2 I2 rx ry q => ho pins s2 σ H2 x y v u Q I2 rx ry q)
theorem zja {op : UnaryOp} {r : V → Hp → VK → Prop} (ho : UnR X (unaryOp op) r) (ha : PE X a ta) : PE X (.UnaryOp op a pos) (tUn r ta) := by
 intro pins s σ H Q I h
 exact UnaryOp_ (thn (ha pins s σ H _ I h) fun v s1 ⟨x, H1, I1, r1, q1⟩ => ho pins s1 σ H1 x v Q I1 r1 q1)
theorem opI {f : Value → Value → Sem Value} {C : Int → Int → Prop} {g : Int → Int → Int}
 (rule : ∀ (i j : Int) (t u : Tok) (s : Shared) (Q : Value → Shared → Prop) (E : Value → Shared → Prop), C i j → Q (.int (g i j) s.toks) { s with toks := s.toks + 1 } → wpAny (model X.prog X.w) X.A (f (.int i t) (.int j u)) Q E s) :
 OpR X f (rI C fun i j => .int (g i j)) := by
 intro pins s σ H x y v u Q I rx ry h
 obtain ⟨i, j, rfl, rfl, hc, q⟩ := h
 obtain ⟨t, rfl⟩ := rx
 obtain ⟨t', rfl⟩ := ry
 exact rule i j t t' s _ _ hc ⟨.int (g i j), H, I.tok _, ⟨_, rfl⟩, q⟩
theorem opI0 {f : Value → Value → Sem Value} {g : Int → Int → Int}
 (rule : ∀ (i j : Int) (t u : Tok) (s : Shared) (Q : Value → Shared → Prop) (E : Value → Shared → Prop), Q (.int (g i j) s.toks) { s with toks := s.toks + 1 } → wpAny (model X.prog X.w) X.A (f (.int i t) (.int j u)) Q E s) :
 OpR X f (rI0 fun i j => .int (g i j)) := by
 intro pins s σ H x y v u Q I rx ry h
 obtain ⟨i, j, rfl, rfl, q⟩ := h
 obtain ⟨t, rfl⟩ := rx
 obtain ⟨t', rfl⟩ := ry
 exact rule i j t t' s _ _ ⟨.int (g i j), H, I.tok _, ⟨_, rfl⟩, q⟩
theorem opB0 {f : Value → Value → Sem Value} {g : Int → Int → Bool}
 (rule : ∀ (i j : Int) (t u : Tok) (s : Shared) (Q : Value → Shared → Prop) (E : Value → Shared → Prop), Q (.bool (g i j)) s → wpAny (model X.prog X.w) X.A (f (.int i t) (.int j u)) Q E s) :
 OpR X f (rI0 fun i j => .bl (g i j)) := by
 intro pins s σ H x y v u Q I rx ry h
 obtain ⟨i, j, rfl, rfl, q⟩ := h
 obtain ⟨t, rfl⟩ := rx
 obtain ⟨t', rfl⟩ := ry
 exact rule i j t t' s _ _ ⟨.bl (g i j), H, I, rfl, q⟩
def CMul (i j : Int) : Prop := (-(2 ^ 64) < i ∧ i < 2 ^ 64) ∨ (-(2 ^ 64) < j ∧ j < 2 ^ 64)
theorem CMul.ok {i j : Int} (h : CMul i j) : IntMulOk i j := by
 rcases h with ⟨h1, h2⟩ | ⟨h1, h2⟩
 · exact .of_left (intBits_le_64 h1 h2)
 · exact .of_right (intBits_le_64 h1 h2)
theorem zbs : OpR X (binaryOp .Add) (rI0 fun i j => .int (i + j)) := opI0 fun _ _ _ _ _ _ _ q => add_int q
theorem zbZ : OpR X (binaryOp .Sub) (rI0 fun i j => .int (i - j)) := opI0 fun _ _ _ _ _ _ _ q => sub_int q
theorem zeD : OpR X (binaryOp .Mult) (rI CMul fun i j => .int (i * j)) := opI fun _ _ _ _ _ _ _ hc q => mul_int q hc.ok
theorem zdG : OpR X (binaryOp .Mod) (rI (fun _ j => 0 < j) fun i j => .int (i % j)) := opI fun i j _ _ _ _ _ hc q => by
 have h1 : (0 : Int) < j := hc
 exact mod_int' (by omega) (by rw [Int.fmod_eq_emod_of_nonneg i (by omega)]; exact q)
theorem unI {f : Value → Sem Value} {g : Int → Int}
 (rule : ∀ (i : Int) (t : Tok) (s : Shared) (Q : Value → Shared → Prop) (E : Value → Shared → Prop), Q (.int (g i) s.toks) { s with toks := s.toks + 1 } → wpAny (model X.prog X.w) X.A (f (.int i t)) Q E s) :
 UnR X f (rU fun i => .int (g i)) := by
 intro pins s σ H x v Q I rx h
 obtain ⟨i, rfl, q⟩ := h
 obtain ⟨t, rfl⟩ := rx
 exact rule i t s _ _ ⟨.int (g i), H, I.tok _, ⟨_, rfl⟩, q⟩
theorem zgI : UnR X (unaryOp .USub) (rU fun i => .int (-i)) := unI fun _ _ _ _ _ q => neg_int q
end
def scal : V → V → Bool
 | .non, .non => true | .non, .int _ => true | .int _, .non => true | .non, .bl _ => true | .bl _, .non => true | .non, .str _ => true | .str _, .non => true
 | .int _, .int _ => true | .bl _, .bl _ => true | .str _, .str _ => true | .byt _, .byt _ => true
 | .int _, .str _ => true | .str _, .int _ => true | .bl _, .str _ => true | .str _, .bl _ => true
 | _, _ => false
def rEq : R2 := fun x y H Q => scal x y = true ∧ Q (.bl (decide (x = y))) H
def rNe : R2 := fun x y H Q => scal x y = true ∧ Q (.bl (!decide (x = y))) H
theorem zhP {i j : Int} : decide (V.int i = V.int j) = (i == j) := by
 rw [Bool.eq_iff_iff]
 simp
theorem ziS {i j : Bool} : decide (V.bl i = V.bl j) = (i == j) := by
 rw [Bool.eq_iff_iff]
 simp
theorem zhO {i j : Str} : decide (V.str i = V.str j) = (i == j) := by
 rw [Bool.eq_iff_iff]
 simp
theorem zhQ {i j : Array UInt8} : decide (V.byt i = V.byt j) = (i.toList == j.toList) := by
 rw [Bool.eq_iff_iff]
 cases i
 cases j
 simp
section
variable {X : Cx} {a b c : Expr} {ta tb tc : TE} {pos : Pos}
theorem zaH {pins : List (Addr × Obj)} {σ : St} {H : Hp} {s : Shared} {Q : VK} {k k' : Bool} (I : Inv X pins σ H s) (q : Q (.bl k) H) (e : k = k') : EP X pins σ Q (.bool k') s := by
 subst e
 exact ⟨.bl k, H, I, rfl, q⟩
theorem zbT : OpR X (compareOp .Eq) rEq := by
 intro pins s σ H x y v u Q I rx ry h
 obtain ⟨hs, q⟩ := h
 cases x with
 | non =>
  cases rx
  cases y with
  | non => cases ry; exact PySem.EqNone.eq_none_none (zaH I q (by simp))
  | bl j => cases ry; exact PySem.EqNone.eq_none_bool (zaH I q (by simp))
  | int j => obtain ⟨t', rfl⟩ := ry; exact PySem.EqNone.eq_none_int (zaH I q (by simp))
  | str j => obtain ⟨t', rfl⟩ := ry; exact PySem.EqNone.eq_none_str (zaH I q (by simp))
  | _ => exact absurd (show false = true from hs) Bool.false_ne_true
 | bl i =>
  cases rx
  cases y with
  | non => cases ry; exact PySem.EqNone.eq_bool_none (zaH I q (by simp))
  | bl j => cases ry; exact eq_bool (zaH I q ziS)
  | str j => obtain ⟨t', rfl⟩ := ry; exact PySem.EqMixed.eq_bool_str (zaH I q (by simp))
  | _ => exact absurd (show false = true from hs) Bool.false_ne_true
 | int i =>
  obtain ⟨t, rfl⟩ := rx
  cases y with
  | non => cases ry; exact PySem.EqNone.eq_int_none (zaH I q (by simp))
  | int j => obtain ⟨t', rfl⟩ := ry; exact eq_int (zaH I q zhP)
  | str j => obtain ⟨t', rfl⟩ := ry; exact PySem.EqMixed.eq_int_str (zaH I q (by simp))
  | _ => exact absurd (show false = true from hs) Bool.false_ne_true
 | str i =>
  obtain ⟨t, rfl⟩ := rx
  cases y with
  | non => cases ry; exact PySem.EqNone.eq_str_none (zaH I q (by simp))
  | bl j => cases ry; exact PySem.EqMixed.eq_str_bool (zaH I q (by simp))
  | int j => obtain ⟨t', rfl⟩ := ry; exact PySem.EqMixed.eq_str_int (zaH I q (by simp))
  | str j => obtain ⟨t', rfl⟩ := ry; exact eq_str (zaH I q zhO)
  | _ => exact absurd (show false = true from hs) Bool.false_ne_true
 | byt i =>
  obtain ⟨t, rfl⟩ := rx
  cases y with
  | byt j => obtain ⟨t', rfl⟩ := ry; exact PySem.W.eq_bytes (zaH I q zhQ)
  | _ => exact absurd (show false = true from hs) Bool.false_ne_true
 | _ => cases y <;> exact absurd (show false = true from hs) Bool.false_ne_true
theorem zdk : OpR X (compareOp .NotEq) rNe := by
 intro pins s σ H x y v u Q I rx ry h
 obtain ⟨hs, q⟩ := h
 cases x with
 | non =>
  cases rx
  cases y with
  | non => cases ry; exact PySem.EqNone.ne_none_none (zaH I q (by simp))
  | bl j => cases ry; exact PySem.EqNone.ne_none_bool (zaH I q (by simp))
  | int j => obtain ⟨t', rfl⟩ := ry; exact PySem.EqNone.ne_none_int (zaH I q (by simp))
  | str j => obtain ⟨t', rfl⟩ := ry; exact PySem.EqNone.ne_none_str (zaH I q (by simp))
  | _ => exact absurd (show false = true from hs) Bool.false_ne_true
 | bl i =>
  cases rx
  cases y with
  | non => cases ry; exact PySem.EqNone.ne_bool_none (zaH I q (by simp))
  | bl j => cases ry; exact ne_bool (zaH I q (congrArg not ziS))
  | str j => obtain ⟨t', rfl⟩ := ry; exact PySem.EqMixed.ne_bool_str (zaH I q (by simp))
  | _ => exact absurd (show false = true from hs) Bool.false_ne_true
 | int i =>
  obtain ⟨t, rfl⟩ := rx
  cases y with
  | non => cases ry; exact PySem.EqNone.ne_int_none (zaH I q (by simp))
  | int j => obtain ⟨t', rfl⟩ := ry; exact ne_int (zaH I q (congrArg not zhP))
  | str j => obtain ⟨t', rfl⟩ := ry; exact PySem.EqMixed.ne_int_str (zaH I q (by simp))
  | _ => exact absurd (show false = true from hs) Bool.false_ne_true
 | str i =>
  obtain ⟨t, rfl⟩ := rx
  cases y with
  | non => cases ry; exact PySem.EqNone.ne_str_none (zaH I q (by simp))
  | bl j => cases ry; exact PySem.EqMixed.ne_str_bool (zaH I q (by simp))
  | int j => obtain ⟨t', rfl⟩ := ry; exact PySem.EqMixed.ne_str_int (zaH I q (by simp))
  | str j => obtain ⟨t', rfl⟩ := ry; exact ne_str (zaH I q (congrArg not zhO))
  | _ => exact absurd (show false = true from hs) Bool.false_ne_true
 | byt i =>
  obtain ⟨t, rfl⟩ := rx
  cases y with
  | byt j => obtain ⟨t', rfl⟩ := ry; exact PySem.W.ne_bytes (zaH I q (congrArg not zhQ))
  | _ => exact absurd (show false = true from hs) Bool.false_ne_true
 | _ => cases y <;> exact absurd (show false = true from hs) Bool.false_ne_true
theorem zfn : OpR X (compareOp .Lt) (rI0 fun i j => .bl (decide (i < j))) := opB0 fun _ _ _ _ _ _ _ q => lt_int q
theorem zii : OpR X (compareOp .LtE) (rI0 fun i j => .bl (decide (i ≤ j))) := opB0 fun _ _ _ _ _ _ _ q => le_int q
theorem zfo : OpR X (compareOp .Gt) (rI0 fun i j => .bl (decide (j < i))) := opB0 fun _ _ _ _ _ _ _ q => gt_int q
theorem zkj : OpR X (compareOp .GtE) (rI0 fun i j => .bl (decide (j ≤ i))) := opB0 fun _ _ _ _ _ _ _ q => ge_int q
theorem zdl : OpR X (compareOp .Lt) (fun x y H Q => ∃ i j, x = .str i ∧ y = .str j ∧ Q (.bl (decide (i.cps.toList < j.cps.toList))) H) := by
 intro pins s σ H x y v u Q I rx ry h
 obtain ⟨i, j, rfl, rfl, q⟩ := h
 obtain ⟨t, rfl⟩ := rx
 obtain ⟨t', rfl⟩ := ry
 exact lt_str (zaH I q rfl)
theorem zaq (b : Expr) {op : CmpOp} (h : op ≠ .In := by decide) (h2 : op ≠ .NotIn := by decide) : behindInMarks op b = false := by
 have e1 : (op == CmpOp.In) = false := by cases op <;> first | rfl | exact absurd rfl h
 have e2 : (op == CmpOp.NotIn) = false := by cases op <;> first | rfl | exact absurd rfl h2
 cases b <;> simp [behindInMarks, e1, e2]
theorem za2 {op : CmpOp} {r : R2} (ho : OpR X (compareOp op) r) (ha : PE X a ta) (hb : PE X b tb) (hm : behindInMarks op b = false) : PE X (.Compare a [op] [b] pos) (tOp r ta tb) := by
 intro pins s σ H Q I h
 exact wpAny_Compare1 (binT ha hb I h fun v u s2 x y H2 I2 rx ry q => ho pins s2 σ H2 x y v u Q I2 rx ry q) hm
def zjr (t : TE) : TT := fun σ H Q => t σ H fun x H' => ∃ k, x = .bl k ∧ Q k H'
theorem zan {op : CmpOp} {r : R2} (ho : OpR X (compareOp op) r) (ha : PE X a ta) (hb : PE X b tb) (hm : behindInMarks op b = false) : PT X (.Compare a [op] [b] pos) (zjr (tOp r ta tb)) := by
 intro pins s σ H Q I h
 refine wpAny_isTrue_Compare1 (thn (ha pins s σ H _ I h) fun v s1 ⟨x, H1, I1, r1, q1⟩ => thn (hb pins s1 σ H1 _ I1 q1) fun u s2 ⟨y, H2, I2, r2, q2⟩ =>
  thn (ho pins s2 σ H2 x y v u _ I2 r1 r2 q2) fun c s3 ⟨z, H3, I3, r3, k, e, q3⟩ => ?_) hm
 subst e
 cases r3
 exact wpAny_truthy_bool ⟨H3, I3, q3⟩
def ziD (r r' : R2) (ta tb tc : TE) : TE := fun σ H Q => ta σ H fun x H1 => tb σ H1 fun y H2 => r x y H2 fun z H3 => ∃ k, z = .bl k ∧
 (if k = true then tc σ H3 fun w' H4 => r' y w' H4 Q else Q (.bl false) H3)
theorem zig {op op' : CmpOp} {r r' : R2} (ho : OpR X (compareOp op) r) (ho' : OpR X (compareOp op') r') (ha : PE X a ta) (hb : PE X b tb) (hc : PE X c tc)
 (hm : lastMarks [op, op'] [b, c] = false := by with_unfolding_all rfl) : PE X (.Compare a [op, op'] [b, c] pos) (ziD r r' ta tb tc) := by
 intro pins s σ H Q I h
 refine Compare_chain (thn (ha pins s σ H _ I h) fun v s1 ⟨x, H1, I1, r1, q1⟩ => chain_link (thn (hb pins s1 σ H1 _ I1 q1) fun u s2 ⟨y, H2, I2, r2, q2⟩ =>
  thn (ho pins s2 σ H2 x y v u _ I2 r1 r2 q2) fun d s3 ⟨z, H3, I3, r3, k, e, q3⟩ => ?_)) hm
 subst e
 cases r3
 refine wpAny_truthy_bool ?_
 cases k with
 | false => exact ite_ff ⟨.bl false, H3, I3, rfl, q3⟩
 | true => exact ite_tt (chain_last (thn (hc pins s3 σ H3 _ I3 q3) fun w' s4 ⟨z', H4, I4, r4, q4⟩ => ho' pins s4 σ H4 y z' u w' Q I4 r2 r4 q4))
theorem zia {op op' : CmpOp} {r r' : R2} (ho : OpR X (compareOp op) r) (ho' : OpR X (compareOp op') r') (ha : PE X a ta) (hb : PE X b tb) (hc : PE X c tc)
 (hm : lastMarks [op, op'] [b, c] = false := by with_unfolding_all rfl) : PT X (.Compare a [op, op'] [b, c] pos) (zjr (ziD r r' ta tb tc)) := by
 intro pins s σ H Q I h
 refine isTrue_chain (thn (ha pins s σ H _ I h) fun v s1 ⟨x, H1, I1, r1, q1⟩ => test_link (thn (hb pins s1 σ H1 _ I1 q1) fun u s2 ⟨y, H2, I2, r2, q2⟩ =>
  thn (ho pins s2 σ H2 x y v u _ I2 r1 r2 q2) fun d s3 ⟨z, H3, I3, r3, k, e, q3⟩ => ?_)) hm
 subst e
 cases r3
 refine wpAny_truthy_bool ?_
 cases k with
 | false =>
  obtain ⟨k', e', q'⟩ := q3
  cases e'
  exact ite_ff ⟨H3, I3, q'⟩
 | true =>
  refine ite_tt (test_last (thn (hc pins s3 σ H3 _ I3 q3) fun w' s4 ⟨z', H4, I4, r4, q4⟩ => thn (ho' pins s4 σ H4 y z' u w' _ I4 r2 r4 q4) fun d' s5 ⟨z2, H5, I5, r5, k2, e2, q5⟩ => ?_))
  subst e2
  cases r5
  exact wpAny_truthy_bool ⟨H5, I5, q5⟩
theorem zdH : (sizeLine : Nat) < 2 ^ 63 := by rw [sizeLine_eq]; decide
theorem zeo {x : V} {us : List Value} (r : Vals [x] us) : ∃ u, us = [u] ∧ RelV x u := by
 cases r with
 | cons r1 r2 => cases r2; exact ⟨_, rfl, r1⟩
theorem zgk {x y : V} {us : List Value} (r : Vals [x, y] us) : ∃ u w', us = [u, w'] ∧ RelV x u ∧ RelV y w' := by
 cases r with
 | cons r1 r2 =>
  cases r2 with
  | cons r3 r4 => cases r4; exact ⟨_, _, rfl, r1, r3⟩
theorem zdu (hc : X.calm = true) : zdw X (.builtin "max") (fun xs H Q => ∃ i j, xs = [.int i, .int j] ∧ Q (.int (if j > i then j else i)) H) := by
 intro pins s σ H xs us Q I r h
 obtain ⟨i, j, rfl, q⟩ := h
 obtain ⟨u, w', rfl, ⟨t, rfl⟩, ⟨t', rfl⟩⟩ := zgk r
 refine max_two_ints (I.ok.hd hc) fun h' tk k => ⟨_, H, I.kept k, ?_, q⟩
 by_cases hj : j > i
 · rw [if_pos hj, if_pos hj]; exact ⟨_, rfl⟩
 · rw [if_neg hj, if_neg hj]; exact ⟨_, rfl⟩
theorem zeQ (hc : X.calm = true) : zdw X (.builtin "min") (fun xs H Q => ∃ i j, xs = [.int i, .int j] ∧ Q (.int (if j < i then j else i)) H) := by
 intro pins s σ H xs us Q I r h
 obtain ⟨i, j, rfl, q⟩ := h
 obtain ⟨u, w', rfl, ⟨t, rfl⟩, ⟨t', rfl⟩⟩ := zgk r
 refine min_two_ints (I.ok.hd hc) fun h' tk k => ⟨_, H, I.kept k, ?_, q⟩
 by_cases hj : j < i
 · rw [if_pos hj, if_pos hj]; exact ⟨_, rfl⟩
 · rw [if_neg hj, if_neg hj]; exact ⟨_, rfl⟩
end
structure ObjM (h : Heap) (x dx C : Addr) (mA : Str → Option Value) : Prop where
 obj : h.get? x = some (PySem.W.instObj C dx)
 ns : h.Ns1 dx mA
 ne : dx ≠ x
theorem zhs {h : Heap} {dx : Addr} {mA : Str → Option Value} (n : h.Ns1 dx mA) : ∃ od, h.get? dx = some od ∧ ∀ name, PySem.W.lookIn name od = some (mA name) := by
 obtain ⟨o, es, ep, ho, hd, hk, _, hm⟩ := n
 refine ⟨o, ho, fun name => ?_⟩
 have e := hm name
 unfold nsFind findBy at e
 rw [← Array.find?_toList] at e
 unfold PySem.W.lookIn
 rw [hd]
 dsimp only
 split
 · rename_i y q
   rw [q] at e
   exact congrArg some e
 · rename_i q
   rw [q] at e
   have a : es.toList.any (·.refKey) = false := by
    rw [List.any_eq_false]
    intro y hy
    obtain ⟨z, t, hkey⟩ := hk y (Array.mem_toList_iff.mp hy)
    simp [DictEntry.refKey, hkey]
   have a' : ¬ es.toList.any (·.refKey) = true := by rw [a]; exact Bool.false_ne_true
   rw [if_neg a']
   exact congrArg some e
theorem ObjM.look {h : Heap} {x dx C : Addr} {mA : Str → Option Value} (I : ObjM h x dx C mA) : ∃ od, PySem.W.InstAt h x (PySem.W.instObj C dx) C (some od) ∧ ∀ name, PySem.W.lookIn name od = some (mA name) :=
 let ⟨od, ho, hl⟩ := zhs I.ns
 ⟨od, ⟨I.obj, rfl, rfl, ho⟩, hl⟩
section
variable {prog : Program} {w : World} {A : Around} {E : Value → Shared → Prop} {s : Shared} {K : PySem.W.Frag} {x dx C f : Addr} {mA : Str → Option Value} {name : Str} {v : Value}
end
section
variable {P : Program} {w : World} {H H' : Hp} {h h' : Heap} {a C dx : Addr} {fs fs' : List (Str × V)}
theorem zjh (hok : HOk P w H h) (e : H a = some (.ins C dx fs)) : ∃ mA, ObjM h a dx C mA ∧ (∀ f, RelO (fs.lookup f) (mA f)) ∧ PySem.Within mA (fs.map (·.1)) ∧ fs.length ≤ 1000 ∧ H dx = some (.own a) := by
 obtain ⟨d, z, ne, ob, mA, n, r, q⟩ := (show ObjOk P w H h a (.ins C dx fs) from hok a _ e)
 exact ⟨mA, ⟨ob, n, ne⟩, r, q, z, d⟩
end
structure Cls (K : PySem.W.Frag) (C : Addr) : Prop where
 pg : PySem.W.plainGet K C Str.empty = true
 hd : PySem.W.hasDictIn K C = true
 po : PySem.W.plainOver K C = true
 sa : PySem.W.findIn K (.ref C) "__setattr__" = some (some (.builtin "object.__setattr__"))
theorem Cls.get {K : PySem.W.Frag} {C : Addr} (c : Cls K C) (f : Str) : PySem.W.plainGet K C f = true := c.pg
section
variable {X : Cx} {pins : List (Addr × Obj)} {σ : St} {H : Hp} {s : Shared} {a C dx : Addr} {fs : List (Str × V)} {f : Str} {v : V} {A : Around} {E : Value → Shared → Prop}
end
section
variable {X : Cx} {o e value : Expr} {f : Str} {pos pos' tpos : Pos} {ta tv : TE}
end
section
variable {X : Cx} {pins : List (Addr × Obj)} {σ : St} {H : Hp} {s : Shared} {A : Around} {E : Value → Shared → Prop} {Q : Value → Shared → Prop} {c : Value} {b : Bool}
inductive TyOf (K : PySem.W.Frag) (H : Hp) : V → Value → Prop where
 | non : TyOf K H .non (.type "NoneType")
 | bl (x : Bool) : TyOf K H (.bl x) (.type "bool")
 | int (i : Int) : TyOf K H (.int i) (.type "int")
 | str (x : Str) : TyOf K H (.str x) (.type "str")
 | flt (x : UInt64) : TyOf K H (.flt x) (.type "float")
 | lst {a : Addr} {xs : List V} (e : H a = some (.lst xs)) : TyOf K H (.ref a) (.type "list")
 | frz {a : Addr} {o : Obj} {xs : List V} (e : H a = some (.frz o (.lst xs))) : TyOf K H (.ref a) (.type "list")
 | tup {a : Addr} {xs : List V} (e : H a = some (.tup xs)) : TyOf K H (.ref a) (.type "tuple")
 | dK {a : Addr} {kvs : List (Key × V)} (e : H a = some (.dK kvs)) : TyOf K H (.ref a) (.type "dict")
 | dT {a : Addr} {kvs : List (List Key × V)} (e : H a = some (.dT kvs)) : TyOf K H (.ref a) (.type "dict")
 | ins {a C dx : Addr} {fs : List (Str × V)} (e : H a = some (.ins C dx fs)) (cl : Cls K C) (ha : PySem.W.findIn K (.ref C) "__class__" = some (some (.builtin "object.__class__")))
  (hn : PySem.W.specialIn K (.builtin "object.__class__") "__get__" = some (some (.builtin "getset_descriptor.__get__"))) (htk : PySem.W.takesIn K (.builtin "object.__class__") = some true)
  (hm : PySem.W.mroIn K C (.type "object") = some true) : TyOf K H (.ref a) (.ref C)
theorem zhD {x : V} {u t : Value} (I : Inv X pins σ H s) (rx : RelV x u) (ty : TyOf X.K H x t) (e : PySem.W.kitOne X.K t c = some b) (h : ∀ tk, Q (.bool b) { s with toks := tk }) :
 wpAny (model X.prog X.w) A (call (.builtin "isinstance") [u, c]) Q E s := by
 cases ty with
 | non => cases (show u = Value.none from rx); exact PySem.W.kia_one PySem.W.kitx_none I.kIn True.intro e (fun z => nomatch z) h
 | bl y => cases (show u = Value.bool y from rx); exact PySem.W.kia_one PySem.W.kitx_bool I.kIn True.intro e (fun z => nomatch z) h
 | int i => obtain ⟨t, q⟩ := (show ∃ t, u = Value.int i t from rx); cases q; exact PySem.W.kia_one PySem.W.kitx_int I.kIn True.intro e (fun z => nomatch z) h
 | str y => obtain ⟨t, q⟩ := (show ∃ t, u = Value.str y t from rx); cases q; exact PySem.W.kia_one PySem.W.kitx_str I.kIn True.intro e (fun z => nomatch z) h
 | flt y => obtain ⟨t, q⟩ := (show ∃ t, u = Value.float y t from rx); cases q; exact PySem.W.kia_one PySem.W.kitx_float I.kIn True.intro e (fun z => nomatch z) h
 | @lst a xs ea =>
  cases (show u = Value.ref a from rx)
  obtain ⟨_, _, n, _, h1⟩ := (show ObjOk X.prog X.w H s.heap a (.lst xs) from I.hok a _ ea)
  exact PySem.W.kia_one PySem.W.kitx_list I.kIn ⟨_, h1, rfl⟩ e (fun z => nomatch z) h
 | @frz a ob xs ea =>
  cases (show u = Value.ref a from rx)
  obtain ⟨_, _, _, n, _, h1⟩ := (show ObjOk X.prog X.w H s.heap a (.frz ob (.lst xs)) from I.hok a _ ea)
  exact PySem.W.kia_one PySem.W.kitx_list I.kIn ⟨_, h1, rfl⟩ e (fun z => nomatch z) h
 | @tup a xs ea =>
  cases (show u = Value.ref a from rx)
  obtain ⟨_, _, _, p⟩ := (show ObjOk X.prog X.w H s.heap a (.tup xs) from I.hok a _ ea)
  obtain ⟨o, h1, h2, _⟩ := p
  exact PySem.W.kia_one PySem.W.kitx_tuple I.kIn ⟨o, h1, h2⟩ e (fun z => nomatch z) h
 | @dK a kvs ea =>
  cases (show u = Value.ref a from rx)
  obtain ⟨_, _, vs, _, p⟩ := (show ObjOk X.prog X.w H s.heap a (.dK kvs) from I.hok a _ ea)
  obtain ⟨o, es, ep, h1, h2, _⟩ := p
  exact PySem.W.kia_one PySem.W.kitx_dict I.kIn ⟨o, h1, h2.1⟩ e (fun z => nomatch z) h
 | @dT a kvs ea =>
  cases (show u = Value.ref a from rx)
  obtain ⟨_, _, xs, _, o, es, ep, h1, h2, _⟩ := (show ObjOk X.prog X.w H s.heap a (.dT kvs) from I.hok a _ ea)
  exact PySem.W.kia_one PySem.W.kitx_dict I.kIn ⟨o, h1, h2.1⟩ e (fun z => nomatch z) h
 | @ins a C dx fs ea cl ha hn htk hm =>
  cases (show u = Value.ref a from rx)
  obtain ⟨mA, O, _⟩ := zjh I.hok ea
  obtain ⟨od, J, _⟩ := O.look
  exact PySem.W.kia_one (PySem.W.kitx_own (cl.get _) cl.hd ha hn htk hm) I.kIn J e (fun z => nomatch z) h
end
structure Room (k : Nat) (A : Around) : Prop where
 hd : A.handled = none
 dp : A.depth + 3 * k + 5 < recursionLimit
 un : A.units + 16 * k + 200 < cLine
 gd : A.guards = some []
theorem Room.mono {j k : Nat} {A : Around} (r : Room k A) (h : j ≤ k) : Room j A := ⟨r.hd, by have := r.dp; omega, by have := r.un; omega, r.gd⟩
theorem Room.deeper {k : Nat} {A : Around} (r : Room (k + 1) A) (env : Env) : Room k (A.deeper env) :=
 ⟨r.hd, by have := r.dp; show A.depth + 1 + 3 * k + 5 < _; omega, by have := r.un; show A.units + 3 + 16 * k + 200 < _; omega, r.gd⟩
theorem Room.in1 {k : Nat} {A : Around} (r : Room (k + 1) A) : Room k A.in1 :=
 ⟨r.hd, by have := r.dp; show A.depth + 3 * k + 5 < _; omega, by have := r.un; show A.units + 1 + 16 * k + 200 < _; omega, r.gd⟩
theorem Room.depth {k : Nat} {A : Around} (r : Room k A) : A.depth < recursionLimit := by have := r.dp; omega
theorem Room.units {k : Nat} {A : Around} (r : Room k A) : A.units + 64 < cLine := by have := r.un; omega
def tNil : TA := fun _ H Q => Q [] H
def zjt (ta : TE) (tr : TA) : TA := fun σ H Q => ta σ H fun x H1 => tr σ H1 fun xs H2 => Q (x :: xs) H2
section
variable {X : Cx} {e : Expr} {es : List Expr} {te : TE} {t : TA} {pos : Pos}
theorem zab : PA X [] tNil := fun _ _ _ _ H Q I h => Calls.spliced_nil ⟨[], H, I, .nil, h⟩
theorem zaa (ha : PE X e te) (hr : PA X es t) (hs : starEach (e :: es) X.env = (false, eval e X.env) :: starEach es X.env := by rfl) : PA X (e :: es) (zjt te t) := by
 intro pos pins s σ H Q I h
 rw [hs]
 show wpAny _ _ (spliced ((false, eval e X.env) :: backTo pos (starEach es X.env))) _ _ s
 refine Calls.spliced_cons (thn (ha pins s σ H _ I h) fun u s1 ⟨x, H1, I1, r1, q1⟩ => ?_)
 exact thn (hr pos pins s1 σ H1 _ I1 q1) fun us s2 ⟨xs, H2, I2, r2, q2⟩ => ⟨x :: xs, H2, I2, .cons r1 r2, q2⟩
def tTup (t : TA) : TE := fun σ H Q => t σ H fun xs H1 => xs.length ≤ sizeLine ∧ ∀ p, H1 p = none → Q (.ref p) (upd H1 p (.tup xs))
def tLst (t : TA) : TE := fun σ H Q => t σ H fun xs H1 => xs.length ≤ sizeLine ∧ ∀ p, H1 p = none → Q (.ref p) (upd H1 p (.lst xs))
theorem zaQ {x1} (h : PA X es t) : PE X (.Tuple es x1 pos) (tTup t) := by
 intro pins s σ H Q I hq
 refine wpAny_Tuple_spliced (thn (h pos pins s σ H _ I hq) fun us s1 ⟨xs, H1, I1, r, z, q⟩ => ⟨by rw [← r.length]; exact z, ?_⟩)
 have hf : H1 s1.heap.objs.size = none := I1.hok.fresh (Nat.le_refl _)
 refine ⟨.ref s1.heap.objs.size, upd H1 s1.heap.objs.size (.tup xs), I1.laid (t' := s1.toks) (fun b u e => Heap.get?_push_of_some _ e) (Nat.le_refl _) ?_, rfl, q _ hf⟩
 exact ⟨z, us, r, ⟨_, Heap.get?_push_size _ rfl, rfl, rfl, _, rfl⟩⟩
theorem zbr (h : PA X es t) : PE X (.List es pos) (tLst t) := by
 intro pins s σ H Q I hq
 refine wpAny_List_spliced (thn (h pos pins s σ H _ I hq) fun us s1 ⟨xs, H1, I1, r, z, q⟩ => ⟨by rw [← r.length]; exact z, ?_⟩)
 have hf : H1 s1.heap.objs.size = none := I1.hok.fresh (Nat.le_refl _)
 refine ⟨.ref s1.heap.objs.size, upd H1 s1.heap.objs.size (.lst xs), I1.laid (t' := s1.toks) (fun b u e => Heap.get?_push_of_some _ e) (Nat.le_refl _) ?_, rfl, q _ hf⟩
 exact ⟨z, us, 0, r, Heap.get?_push_size _ rfl⟩
end
abbrev Sp := List V → Hp → VK → XK → Prop
abbrev CXT := List Env → Hp → Shared → XK → Value → Shared → Prop
structure Env0 (P : Program) (w : World) (K : PySem.W.Frag) (mg : Str → Option Value) (base : Heap) (A : Around) (outer : List Env) (s : Shared) (H : Hp) : Prop where
 frames : A.frames = some outer
 mod : Mod K mg base
 bs : ∀ b o, base.get? b = some o → s.heap.get? b = some o ∧ H b = none
 bsz : base.objs.size ≤ s.heap.objs.size
 funs : s.heap.FunFrames base outer
 frf : ∀ b ∈ frs outer, H b = none
 hok : HOk P w H s.heap
 bare : AllBare s.gens
def CE (outer : List Env) (P : Program) (w : World) (H : Hp) (s : Shared) (Q : VK) (u : Value) (s' : Shared) : Prop :=
 ∃ v H', s'.os = s.os ∧ AllBare s'.gens ∧ Un (frs outer) [] H H' s.heap s'.heap ∧ HOk P w H' s'.heap ∧ RelV v u ∧ Q v H'
def CR (CX : CXT) (outer : List Env) (P : Program) (w : World) (H : Hp) (s : Shared) (Q : VK) (E : XK) (r : Result) (s' : Shared) : Prop :=
 match r with
 | .ok (.ret u) => CE outer P w H s Q u s'
 | .ok _ => False
 | .error e => CX outer H s E e s'
structure FnOk (P : Program) (w : World) (K : PySem.W.Frag) (mg : Str → Option Value) (base : Heap) (CX : CXT) (k : Nat) (f : Addr) (fd : FuncData) (ps : List Str) (sp : Sp) : Prop where
 len : ∀ vs H Q E, sp vs H Q E → vs.length = ps.length
 run : ∀ (A : Around) (outer : List Env) (s : Shared) (H : Hp) (args : Args) (us : List Value) (vs : List V) (Q : VK) (E : XK), Room k A → Env0 P w K mg base A outer s H → BindsTo s fd args (ps.zip us) → Vals vs us → sp vs H Q E →
  codeAny (model P w) A (.call (.ref f) args) (CR CX outer P w H s Q E) s
section
variable {X : Cx} {pins : List (Addr × Obj)} {σ : St} {H : Hp} {s s' : Shared}
theorem Inv.env0 (I : Inv X pins σ H s) : Env0 X.prog X.w X.K X.mg X.base X.A X.stack s H :=
 ⟨I.ok.frames, I.ok.mod, I.bs, Nat.le_trans I.ok.bsz I.sz, I.stack, I.stkFree, I.hok, I.bare⟩
theorem Inv.after {Q : VK} {u : Value} (I : Inv X pins σ H s) (h : CE X.stack X.prog X.w H s Q u s') : EP X pins σ Q u s' := by
 obtain ⟨v, H', os, bare, un, hok, r, q⟩ := h
 obtain ⟨hh, g, d, t, os'⟩ := s'
 obtain rfl : os' = s.os := os
 exact ⟨v, H', I.call (h' := hh) (g' := g) (d' := d) (t' := t) (ch := []) un hok bare (fun b z => absurd z (by simp)), r, q⟩
end
def zju (sp : Sp) (dvs : List V) (E : XK) (t : TA) : TE := fun σ H Q => t σ H fun vs H1 => sp (vs ++ dvs) H1 Q E
def Binds (K : PySem.W.Frag) (fd : FuncData) (ps : List Str) (ds : List Value) : Prop :=
 ∀ (s : Shared) (us : List Value), K.In s.heap → (us ++ ds).length = ps.length → BindsTo s fd ⟨us, []⟩ (ps.zip (us ++ ds))
theorem Binds.all {K : PySem.W.Frag} {fd : FuncData} {ps : List Str} (h : ∀ us : List Value, us.length = ps.length → bindArgs fd ⟨us, []⟩ = pure (ps.zip us)) : Binds K fd ps [] := fun s us _ hl => by
 rw [List.append_nil] at hl ⊢
 exact .of_eq (h us hl)
def zhX (CX : CXT) (X : Cx) (E : XK) : Prop := ∀ (pins : List (Addr × Obj)) (σ : St) (H : Hp) (s : Shared) (e : Value) (s' : Shared), Inv X pins σ H s → CX X.stack H s E e s' → X.xe e s'
section
variable {X : Cx} {CX : CXT} {k : Nat} {f C : Addr} {fd : FuncData} {ps : List Str} {sp : Sp} {dvs : List V} {ds : List Value} {E : XK} {x m : Str} {p pos apos : Pos} {e o : Expr} {es : List Expr} {ta : TE} {t : TA}
theorem ziE {pins : List (Addr × Obj)} {σ : St} {H : Hp} {s : Shared} {Q : VK} {us : List Value} {vs : List V} (F : FnOk X.prog X.w X.K X.mg X.base CX k f fd ps sp) (hr : Room k X.A) (hb : Binds X.K fd ps ds) (hd : Vals dvs ds) (hx : zhX CX X E)
 (I : Inv X pins σ H s) (r : Vals vs us) (h : sp (vs ++ dvs) H Q E) : wpAny (model X.prog X.w) X.A (call (.ref f) us) (EP X pins σ Q) X.xe s := by
 have r2 : Vals (vs ++ dvs) (us ++ ds) := r.append hd
 have hl : (us ++ ds).length = ps.length := by rw [← r2.length]; exact F.len _ _ _ _ h
 refine wpAny_call (codeAny_mono (F.run X.A X.stack s H ⟨us, []⟩ (us ++ ds) (vs ++ dvs) Q E hr I.env0 (hb s us I.kIn hl) r2 h) fun r s' hq => ?_)
 cases r with
 | error e => exact hx pins σ H s e s' I hq
 | ok fl =>
  cases fl with
  | ret u => exact I.after hq
  | next => exact False.elim hq
  | brk => exact False.elim hq
  | cont => exact False.elim hq
theorem zjb (F : FnOk X.prog X.w X.K X.mg X.base CX k f fd ps sp) (hr : Room k X.A) (hg : Gl X x) (hm : X.mg x = some (.ref f)) (hk : PySem.W.keepIn X.K (.ref f) = true) (hb : Binds X.K fd ps ds) (hd : Vals dvs ds) (hx : zhX CX X E)
 (ha : PA X (e :: es) t) (hdb : (x == ("__debug__" : Str)) = false := by decide) (he : starEach (e :: es) X.env = (false, eval e X.env) :: starEach es X.env := by rfl) (hpl : (backTo pos (starEach es X.env)).any (·.1) = false := by rfl) :
 PE X (.Call (.Name x p) (e :: es) [] pos) (zju sp dvs E t) := by
 intro pins s σ H Q I h
 refine wpAny_Call_Name_kw (zht I hg hm ?_ hdb)
 refine PySem.W.callWith_K (h₀ := X.base) I.ok.mod.kin hk (thn (ha pos pins s σ H _ I h) fun us s1 ⟨vs, H1, I1, r, q⟩ => ⟨I1.kIn, ?_⟩) he hpl
 exact ziE F hr hb hd hx I1 r q
end
def PK (X : Cx) (kws : List Keyword) (t : TA) : Prop :=
 ∀ (pos : Pos) (pins : List (Addr × Obj)) (s : Shared) (σ : St) (H : Hp) (Q : List V → Hp → Prop), Inv X pins σ H s → t σ H Q → wpAny (model X.prog X.w) X.A (evalAll ((backToKw pos (keywordEach kws X.env)).map (·.2))) (AP X pins σ Q) X.xe s
section
variable {X : Cx} {CX : CXT} {k : Nat} {f C : Addr} {fd : FuncData} {ps ks : List Str} {sp : Sp} {E : XK} {x m : Str} {p pos apos kpos : Pos} {e o : Expr} {es : List Expr} {kws : List Keyword} {te ta : TE} {t tk : TA} {nm : Option Str}
theorem zjE : PK X [] tNil := fun _ _ _ _ H Q I h => wpAny_evalAll_nil ⟨[], H, I, .nil, h⟩
theorem zi9 (ha : PE X e te) (hr : PK X kws t) : PK X (⟨nm, e, kpos⟩ :: kws) (zjt te t) := by
 intro pos pins s σ H Q I h
 show wpAny _ _ (evalAll ((do let v ← eval e X.env; standAt pos; pure v) :: (backToKw pos (keywordEach kws X.env)).map (·.2))) _ _ s
 refine wpAny_evalAll_cons (wpAny_bind (thn (ha pins s σ H _ I h) fun u s1 ⟨x, H1, I1, r1, q1⟩ => wpAny_bind (wpAny_standAt (wpAny_pure ?_))))
 exact thn (hr pos pins s1 σ H1 _ I1 q1) fun us s2 ⟨xs, H2, I2, r2, q2⟩ => ⟨x :: xs, H2, I2, .cons r1 r2, q2⟩
variable {g : List Value → List Value → List Value} {gV : List V → List V → List V}
end
structure FnScope (N P : List Str) (sc : Scope) : Prop where
 kind : sc.kind = .function
 co : sc.isCoroutine = false
 gen : sc.isGenerator = false
 nd : N.Nodup
 pre : N.take P.length = P
 par : ∀ x ∈ P, sc.names.lookup x = some .local ∨ sc.names.lookup x = some .cell
 nofree : ∀ y ∈ sc.names, y.2 ≠ .free
theorem zeU {kindOf : Str → Option NameKind} {x : Str} : ∀ {binds : List (Str × Value)} {m : Str → Option Value}, (∀ v, (x, v) ∉ binds) → bindL kindOf binds m x = m x
 | [], _, _ => rfl
 | (n, v) :: r, m, h => by
  unfold bindL
  rw [zeU fun w hw => h w (List.mem_cons_of_mem _ hw)]
  split
  · have : x ≠ n := by rintro rfl; exact h v List.mem_cons_self
    simp [this]
  · rfl
theorem zeW {kindOf : Str → Option NameKind} {x : Str} : ∀ {binds : List (Str × Value)} {m : Str → Option Value}, (∀ v, (x, v) ∉ binds) → bindC kindOf binds m x = m x
 | [], _, _ => rfl
 | (n, v) :: r, m, h => by
  unfold bindC
  rw [zeW fun w hw => h w (List.mem_cons_of_mem _ hw)]
  split
  · rfl
  · have : x ≠ n := by rintro rfl; exact h v List.mem_cons_self
    simp [this]
theorem zeV {kindOf : Str → Option NameKind} {x : Str} {v : Value} : ∀ {P : List Str} {vs : List Value} {i : Nat} {m : Str → Option Value}, P.Nodup → P[i]? = some x → vs[i]? = some v → kindOf x = some .local →
 bindL kindOf (P.zip vs) m x = some v
 | [], _, _, _, _, h, _, _ => by simp at h
 | _ :: _, [], _, _, _, _, h, _ => by simp at h
 | p :: P, w :: vs, 0, m, nd, h1, h2, hk => by
  simp at h1 h2; subst h1; subst h2
  show bindL kindOf ((p, w) :: P.zip vs) m p = _
  unfold bindL
  rw [zeU fun v hv => (List.nodup_cons.mp nd).1 (List.of_mem_zip hv).1, if_pos hk]
  simp
 | p :: P, w :: vs, i + 1, m, nd, h1, h2, hk => by
  show bindL kindOf ((p, w) :: P.zip vs) m x = _
  unfold bindL
  exact zeV (i := i) (List.nodup_cons.mp nd).2 (by simpa using h1) (by simpa using h2) hk
theorem zeX {kindOf : Str → Option NameKind} {x : Str} {v : Value} : ∀ {P : List Str} {vs : List Value} {i : Nat} {m : Str → Option Value}, P.Nodup → P[i]? = some x → vs[i]? = some v → kindOf x ≠ some .local →
 bindC kindOf (P.zip vs) m x = some v
 | [], _, _, _, _, h, _, _ => by simp at h
 | _ :: _, [], _, _, _, _, h, _ => by simp at h
 | p :: P, w :: vs, 0, m, nd, h1, h2, hk => by
  simp at h1 h2; subst h1; subst h2
  show bindC kindOf ((p, w) :: P.zip vs) m p = _
  unfold bindC
  rw [zeW fun v hv => (List.nodup_cons.mp nd).1 (List.of_mem_zip hv).1, if_neg hk]
  simp
 | p :: P, w :: vs, i + 1, m, nd, h1, h2, hk => by
  show bindC kindOf ((p, w) :: P.zip vs) m x = _
  unfold bindC
  exact zeX (i := i) (List.nodup_cons.mp nd).2 (by simpa using h1) (by simpa using h2) hk
def zer (N : List Str) (vs : List V) : St := vs.map some ++ List.replicate (N.length - vs.length) none
def cxOf (CX : CXT) (P : Program) (w : World) (K : PySem.W.Frag) (mg : Str → Option Value) (base : Heap) (N : List Str) (qual : Str) (scope : Scope) (f : Addr) (cd : Value) (A : Around) (outer : List Env) (s : Shared) (H : Hp) (E : XK) : Cx where
 prog := P
 w := w
 K := K
 mg := mg
 base := base
 A := A.deeper (envOfC qual scope s.heap.objs.size f cd)
 N := N
 s₀ := s
 H₀ := H
 env := envOfC qual scope s.heap.objs.size f cd
 outer := outer
 stack := envOfC qual scope s.heap.objs.size f cd :: outer
 ex := []
 calm := true
 fn := fun _ => true
 pn := []
 xe := fun e s' => wpAny (model P w) (A.deeper (envOfC qual scope s.heap.objs.size f cd)) (leaving (envOfC qual scope s.heap.objs.size f cd) e) (fun _ s'' => CX outer H s E e s'') (fun e' s'' => CX outer H s E e' s'') s'
theorem zgc {sc : Scope} {n : Nat} {x : Str} (h : sc.names.lookup x = some .cell) : ∃ c, (cellsFrom n sc.names []).lookup x = some c := by
 have q := PySem.W.cellsFrom_some sc.names n [] (.inl h)
 exact Option.isSome_iff_exists.mp q
theorem zhG {CX : CXT} {P : Program} {w : World} {K : PySem.W.Frag} {mg : Str → Option Value} {base : Heap} {N ps : List Str} {qual : Str} {scope : Scope} {f : Addr} {cd : Value} {A : Around} {outer : List Env} {s s1 : Shared} {H : Hp} {E : XK} {us : List Value} {vs : List V}
 (S : FnScope N ps scope) (hd : A.handled = none) (e0 : Env0 P w K mg base A outer s H) (hl : vs.length = ps.length) (r : Vals vs us)
 (x : InCallC s s.heap.objs.size (bindL (envOfC qual scope s.heap.objs.size f cd).kindOf (ps.zip us) fun _ => none) (cellsFrom (s.heap.objs.size + 1) scope.names []) (bindC (envOfC qual scope s.heap.objs.size f cd).kindOf (ps.zip us) fun _ => none) s1) :
 Inv (cxOf CX P w K mg base N qual scope f cd A outer s H E) [] (zer N vs) H s1 := by
 have hpl : ps.length ≤ N.length := by have := congrArg List.length S.pre; rw [List.length_take] at this; omega
 obtain ⟨h1, tk, rfl, hk⟩ := x.done
 have noA : ∀ b : Addr, b ∉ (cxOf CX P w K mg base N qual scope f cd A outer s H E).ex := fun b z => absurd (show b ∈ ([] : List Addr) from z) (by simp)
 refine ⟨⟨e0.mod, S.kind, rfl, rfl, Nat.le_refl _, fun y z c h1 h2 => ?_, fun y hy => ?_, fun y c _ h => ?_, fun _ => hd, Around.frames_deeper e0.frames, .inr ⟨rfl, rfl⟩, fun b z => absurd z (noA b), e0.bs, e0.bsz, fun b _ _ => noA b, fun b z => absurd z (noA b), e0.funs, e0.frf⟩,
  rfl, e0.bare, Un.kept hk, ⟨_, x.toInCall.ns, fun i y v h1 h2 h3 => ?_⟩, fun y c h => ⟨_, x.cell y c h⟩, e0.hok.fresh (Nat.le_refl _), fun y c h => ?_, fun p hp => absurd (show p ∈ ([] : List (Addr × Obj)) from hp) (by simp), e0.hok.kept hk, ?_⟩
 · exact name_of_addr x.apart (PySem.mem_of_lookup h1) (PySem.mem_of_lookup h2)
 · have hy : scope.names.lookup y = some .cell ∨ scope.names.lookup y = some .free := hy
   rcases hy with hy | hy
   · exact zgc hy
   · exact absurd rfl (S.nofree _ (PySem.mem_of_lookup hy))
 · exact Nat.le_of_lt (x.above y c (PySem.mem_of_lookup h))
 · have hi : i < vs.length := by
    unfold zer at h2
    by_cases hi : i < vs.length
    · exact hi
    · rw [List.getElem?_append_right (by simpa using hi)] at h2
      rw [List.getElem?_replicate] at h2
      split at h2 <;> cases h2
   have ha : vs[i]? = some v := by
    unfold zer at h2
    rw [List.getElem?_append_left (by simpa using hi), List.getElem?_map] at h2
    cases e : vs[i]? with
    | none => rw [e] at h2; cases h2
    | some a => rw [e] at h2; cases h2; rfl
   obtain ⟨u, hu, rv⟩ := r.get ha
   have hp : ps[i]? = some y := by
    rw [← S.pre, List.getElem?_take_of_lt (by omega)]; exact h1
   have ndP : ps.Nodup := by rw [← S.pre]; exact S.nd.sublist (List.take_sublist _ _)
   refine ⟨u, rv, ?_⟩
   rcases S.par y (List.mem_of_getElem? hp) with k | k
   · exact .inl ⟨k, zeV ndP hp hu k⟩
   · obtain ⟨c, e⟩ := zgc (n := s.heap.objs.size + 1) k
     refine .inr ⟨.inl k, c, e, ?_⟩
     have q := x.cell y c e
     rw [zeX ndP hp hu (by show scope.names.lookup y ≠ _; rw [k]; decide)] at q
     exact q
 · exact e0.hok.fresh (Nat.le_of_lt (x.above y c (PySem.mem_of_lookup h)))
 · unfold zer
   show _ = N.length
   rw [List.length_append, List.length_map, List.length_replicate]
   omega
theorem zkn {CX : CXT} {P : Program} {w : World} {K : PySem.W.Frag} {mg : Str → Option Value} {base : Heap} {k : Nat} {f : Addr} {name qual : Str} {params : Arguments} {body : List Stmt} {scope : Scope} {dV kV doc pm cdv ct oc : Value} {an od : Option Addr}
 {osl : Array (Option Value)} {N ps : List Str} {sp : Sp} (lk : K.lookup f = some ⟨oc, od, .func (PySem.W.fnOf name qual params body scope dV kV doc pm an cdv ct), osl⟩) (hcd : PySem.W.codeIn K cdv qual = true) (S : FnScope N ps scope)
 (len : ∀ vs H Q E, sp vs H Q E → vs.length = ps.length)
 (hbody : ∀ (A : Around) (outer : List Env) (s : Shared) (H : Hp) (vs : List V) (Q : VK) (E : XK), Room k (A.deeper (envOfC qual scope s.heap.objs.size f cdv)) → sp vs H Q E →
  ∃ t, PSs (cxOf CX P w K mg base N qual scope f cdv A outer s H E) body t ∧ t { nx := fun _ H' => Q .non H', rt := Q } (zer N vs) H) :
 FnOk P w K mg base CX (k + 1) f (PySem.W.fnOf name qual params body scope dV kV doc pm an cdv ct) ps sp := by
 refine ⟨len, fun A outer s H args us vs Q E hr e0 hb r hsp => ?_⟩
 have hl := len _ _ _ _ hsp
 have KX : K.In s.heap := e0.mod.kin.keeps fun b o e => (e0.bs b o e).1
 have lim : s.heap.NoLimit := e0.mod.nolimit.keeps fun b o e => (e0.bs b o e).1
 have hkind : ∀ y ∈ ps.zip us, scope.names.lookup y.1 = some .local ∨ (scope.names.lookup y.1 = some .cell ∧ ((cellsFrom (s.heap.objs.size + 1) scope.names []).lookup y.1).isSome = true) := fun ⟨n, v⟩ hy => by
  rcases S.par n (List.of_mem_zip hy).1 with q | q
  · exact .inl q
  · exact .inr ⟨q, PySem.W.cellsFrom_some _ _ _ (.inl q)⟩
 refine codeAny_call_function hr.depth (KX _ _ lk) rfl S.co S.gen rfl (PySem.W.codeRec_of KX hcd) (hb _ _ _ _ ?_)
 refine wpAny_newFunctionEnv_cells S.kind hkind fun env he s1 x => ?_
 subst he
 refine ⟨lim.keeps x.toInCall.keep, codeAny_func ?_⟩
 obtain ⟨t, ht, hq⟩ := hbody A outer s H vs Q E (hr.deeper _) hsp
 have I : Inv (cxOf CX P w K mg base N qual scope f cdv A outer s H E) [] (zer N vs) H s1 := zhG S hr.hd e0 hl r x
 refine wpAny_mono (ht [] s1 (zer N vs) H _ I hq) (fun fl s' hs => ?_) fun e s' hs => hs
 have fin : ∀ {σ' : St} {H' : Hp} {v : V} {u : Value}, Inv (cxOf CX P w K mg base N qual scope f cdv A outer s H E) [] σ' H' s' → RelV v u → Q v H' → CE outer P w H s Q u s' :=
  fun {σ' H' v u} J rv q => ⟨v, H', J.os, J.bare, J.base, J.hok, rv, q⟩
 cases fl with
 | ret u =>
  obtain ⟨v, σ', H', J, rv, q⟩ := hs
  exact fin J rv q
 | next =>
  obtain ⟨σ', H', J, q⟩ := hs
  exact fin (v := V.non) (u := Value.none) J rfl q
 | brk =>
  obtain ⟨_, _, _, q⟩ := hs
  exact False.elim q
 | cont =>
  obtain ⟨_, _, _, q⟩ := hs
  exact False.elim q
section
variable {X : Cx} {x : Str} {p pos : Pos} {e : Expr} {es : List Expr} {t : TA} {id T : String} {r : List V → Hp → VK → Prop}
def tCB (r : List V → Hp → VK → Prop) (t : TA) : TE := fun σ H Q => t σ H fun vs H1 => r vs H1 Q
theorem zai (hc : zdw X (.builtin id) r) (hg : Gl X x) (hm : X.mg x = none) (hv : bootBuiltins x = some (.builtin id)) (ha : PA X (e :: es) t) (hn : x ≠ "__name__" := by decide) (hdb : (x == ("__debug__" : Str)) = false := by decide)
 (he : starEach (e :: es) X.env = (false, eval e X.env) :: starEach es X.env := by rfl) (hpl : (backTo pos (starEach es X.env)).any (·.1) = false := by rfl) : PE X (.Call (.Name x p) (e :: es) [] pos) (tCB r t) := by
 intro pins s σ H Q I h
 refine wpAny_Call_Name_kw (zcX I hg hm hv ?_ hn hdb)
 exact PyProof.Rows.callWith_builtin1 (thn (ha pos pins s σ H _ I h) fun us s1 ⟨vs, H1, I1, r1, q1⟩ => hc pins s1 σ H1 vs us Q I1 r1 q1) he hpl
theorem zeA (hc : zdw X (.type T) r) (hg : Gl X x) (hm : X.mg x = none) (hv : bootBuiltins x = some (.type T)) (ha : PA X (e :: es) t) (hn : x ≠ "__name__" := by decide) (hdb : (x == ("__debug__" : Str)) = false := by decide)
 (he : starEach (e :: es) X.env = (false, eval e X.env) :: starEach es X.env := by rfl) (hpl : (backTo pos (starEach es X.env)).any (·.1) = false := by rfl) : PE X (.Call (.Name x p) (e :: es) [] pos) (tCB r t) := by
 intro pins s σ H Q I h
 refine wpAny_Call_Name_kw (zcX I hg hm hv ?_ hn hdb)
 exact PyProof.Rows.callWith_type1 (thn (ha pos pins s σ H _ I h) fun us s1 ⟨vs, H1, I1, r1, q1⟩ => hc pins s1 σ H1 vs us Q I1 r1 q1) he hpl
end
end L2
namespace HT
open PySem PyProof.Rows
section
open PySem.SeqAt
open PySem.AutoSeq1 (wpAny_loadPart')
open PySem.MeetsSeq PySem.MeetsSeq2 PySem.MeetsSeq3
end
section
variable {prog : Program} {w : World} {A : Around} {E : Value → Shared → Prop} {s : Shared}
theorem cat_tup {t b : Addr} {vs ws : List Value} {Q : Value → Shared → Prop} (ht : IsTup s.heap t vs.toArray) (hb : IsTup s.heap b ws.toArray) (hv : vs ≠ [])
 (h1 : ws = [] → Q (.ref t) s) (h2 : ws ≠ [] → Q (.ref s.heap.objs.size) { s with heap := s.heap.push { cls := .type "tuple", data := .seq (vs ++ ws).toArray } })
 (hsz : vs.length + ws.length ≤ sizeLine) : wpAny (model prog w) A (binaryOp .Add (.ref t) (.ref b)) Q E s := by
 obtain ⟨⟨cls, dd, data, sl⟩, ho, hc, n, hd⟩ := id ht
 obtain ⟨⟨cls2, dd2, data2, sl2⟩, ho2, hc2, n2, hd2⟩ := id hb
 simp only at hc hd hc2 hd2
 subst hc hd hc2 hd2
 have e : vs.toArray ++ ws.toArray = (vs ++ ws).toArray := by simp
 by_cases hw : ws = []
 · exact concat_meets ⟨_, ho, rfl⟩ ⟨_, ho2, rfl⟩ noFill_tuple_add seq_tuple_add PySem.F.slot_tuple_add PySem.F.entry_tuple_add (PySem.F.args_tuple_add_2 _ _)
    (tuple_addW1 t b vs.toArray ws.toArray n n2 dd dd2 sl sl2 (by simpa using hv) (by simp [hw])) ⟨ho, ho2, h1 hw⟩
 · refine concat_meets ⟨_, ho, rfl⟩ ⟨_, ho2, rfl⟩ noFill_tuple_add seq_tuple_add PySem.F.slot_tuple_add PySem.F.entry_tuple_add (PySem.F.args_tuple_add_2 _ _)
    (tuple_addW2 t b vs.toArray ws.toArray n n2 dd dd2 sl sl2 (by simpa using hv) (by simpa using hw) (by rw [List.size_toArray, List.size_toArray]; exact hsz)) ⟨ho, ho2, ?_⟩
   rw [e]
   exact h2 hw
def sIx (n d : Nat) : Option Int → Nat
 | none => d
 | some v => if v < 0 then (v + (n : Int)).toNat else min v.toNat n
theorem sIx_none (n d : Nat) : sIx n d none = d := rfl
theorem sIx_nat (n d k : Nat) : sIx n d (some (k : Int)) = min k n := by
 show (if (k : Int) < 0 then ((k : Int) + (n : Int)).toNat else min (k : Int).toNat n) = min k n
 rw [if_neg (by omega), Int.toNat_natCast]
theorem zjy (n d : Nat) (hd : d ≤ n) (o : Option Int) : sIx n d o ≤ n := by
 cases o with
 | none => exact hd
 | some v =>
  show (if v < 0 then (v + (n : Int)).toNat else min v.toNat n) ≤ n
  by_cases hv : v < 0
  · rw [if_pos hv]; omega
  · rw [if_neg hv]; exact Nat.min_le_right _ _
theorem zhV (v : Int) (n d : Nat) : (if v < 0 then max (v + (n : Int)) 0 else min v (n : Int)) = ((sIx n d (some v) : Nat) : Int) := by
 show (if v < 0 then max (v + (n : Int)) 0 else min v (n : Int)) = (((if v < 0 then (v + (n : Int)).toNat else min v.toNat n) : Nat) : Int)
 by_cases hv : v < 0
 · simp only [if_pos hv]; omega
 · simp only [if_neg hv]; omega
theorem zgH (lo hi : Option Int) (n : Nat) : Builtin.Slice.sliceAdjust lo hi 1 (n : Int) = (((sIx n 0 lo : Nat) : Int), ((sIx n n hi : Nat) : Int)) := by
 have h1 : ¬ ((1 : Int) < 0) := by omega
 unfold Builtin.Slice.sliceAdjust
 simp only [h1, if_false]
 refine Prod.ext ?_ ?_
 · cases lo with
   | none => rfl
   | some v => exact zhV v n 0
 · cases hi with
   | none => rfl
   | some v => exact zhV v n n
theorem zgs (i j : Nat) : Builtin.Slice.slicePlaces (i : Int) (j : Int) 1 = j - i := by
 unfold Builtin.Slice.slicePlaces
 have h1 : (1 : Int) > 0 := by omega
 simp only [h1, if_true, Int.ediv_one]
 split <;> omega
theorem zdD {v : Value} {o : Option Int} {Q : Option Int → Shared → Prop} (p : IsPart v o) (h : Q o s) : wpAny (model prog w) A (Builtin.Slice.slicePartIndex v) Q E s := by
 cases p with
 | none => exact slicePart_none h
 | int i t => exact slicePart_int h
theorem sliceApplied_gen {sl : Addr} {vl vu : Value} {lo hi : Option Int} {n : Nat} {Q : Int × Int × Nat → Shared → Prop} (hs : s.heap.IsSliceOf sl vl vu .none) (pl : IsPart vl lo) (pu : IsPart vu hi)
 (h : Q (((sIx n 0 lo : Nat) : Int), 1, sIx n n hi - sIx n 0 lo) s) : wpAny (model prog w) A (Builtin.Slice.sliceApplied (.ref sl) (pure (n : Int))) Q E s := by
 obtain ⟨os, hos, hcs, hds⟩ := id hs
 unfold Builtin.Slice.sliceApplied Builtin.Slice.sliceFields
 refine wpAny_bind (wpAny_bind (wpAny_field hos hds (x := vl) rfl (wpAny_bind (wpAny_field hos hds (x := vu) rfl (wpAny_bind (wpAny_field hos hds (x := .none) rfl (wpAny_pure ?_)))))))
 refine wpAny_bind (slicePart_none ?_)
 show wpAny _ _ (if ((1 : Int) == 0) = true then _ else _) _ _ s
 rw [if_neg (by decide)]
 refine wpAny_bind (zdD pl (wpAny_bind (zdD pu (wpAny_bind (wpAny_pure ?_)))))
 show wpAny _ _ (match Builtin.Slice.sliceAdjust lo hi 1 (n : Int) with | (lo, hi) => pure (lo, (1 : Int), Builtin.Slice.slicePlaces lo hi 1)) _ _ s
 rw [zgH lo hi n]
 show wpAny _ _ (pure (((sIx n 0 lo : Nat) : Int), (1 : Int), Builtin.Slice.slicePlaces ((sIx n 0 lo : Nat) : Int) ((sIx n n hi : Nat) : Int) 1)) _ _ s
 rw [zgs]
 exact wpAny_pure h
theorem zid (xs : Array Value) (i k : Nat) : ((List.range k).filterMap fun (m : Nat) => xs[((i : Int) + (m : Int) * 1).toNat]?).toArray = ((xs.toList.drop i).take k).toArray := by
 have e : (fun (m : Nat) => xs[((i : Int) + (m : Int) * 1).toNat]?) = fun m => xs[i + m]? := by
  funext m
  have : ((i : Int) + (m : Int) * 1).toNat = i + m := by omega
  rw [this]
 rw [e]
 have := pick_run xs i k
 rw [List.filterMap_map] at this
 have e2 : ((fun x => xs[x]?) ∘ fun x => i + x) = fun m => xs[i + m]? := rfl
 rw [e2] at this
 rw [this]
theorem getItem_tuple_cut {t sl : Addr} {items : Array Value} {vl vu : Value} {lo hi : Option Int} {Q : Value → Shared → Prop} (ht : IsTup s.heap t items) (hs : s.heap.IsSliceOf sl vl vu .none) (pl : IsPart vl lo) (pu : IsPart vu hi)
 (hw : ¬ (sIx items.size 0 lo = 0 ∧ sIx items.size items.size hi = items.size))
 (h : Q (.ref s.heap.objs.size) { s with heap := s.heap.push { cls := .type "tuple", data := .seq ((items.toList.drop (sIx items.size 0 lo)).take (sIx items.size items.size hi - sIx items.size 0 lo)).toArray } })
 (hsz : items.size ≤ sizeLine) : wpAny (model prog w) A (getItem (.ref t) (.ref sl)) Q E s := by
 have htake : sizeOk (.seq ((items.toList.drop (sIx items.size 0 lo)).take (sIx items.size items.size hi - sIx items.size 0 lo)).toArray) := by
  show ((items.toList.drop (sIx items.size 0 lo)).take (sIx items.size items.size hi - sIx items.size 0 lo)).toArray.size ≤ sizeLine
  rw [List.size_toArray, List.length_take, List.length_drop, Array.length_toList]
  omega
 have hj : sIx items.size items.size hi ≤ items.size := zjy _ _ (Nat.le_refl _) hi
 obtain ⟨os, hos, hcs, hds⟩ := id hs
 have hTs : s.TypeIs (.ref sl) "slice" := ⟨os, hos, hcs⟩
 unfold getItem
 try with_reducible refine wpAny_holding ?_
 first | refine wpAny_bind (wpAny_pure ?_) | skip
 refine wpAny_bind (wpAny_sequenceKey ht.typeIs (by decide) ?_)
 refine wpAny_bind (wpAny_callSpecial?_slot (name := Str.ofString "__getitem__") ht.typeIs PyProof.Rows.slot_tuple_getitem
  (wpAny_call_entry PyProof.Rows.slot_tuple_getitem ht.typeIs entry_tuple_getitem ?_ (args_tuple_getitem _ _)))
 show wpAny _ _ (Builtin.Tuple.tupleItemsOf (.ref t) >>= _) _ _ s
 refine wpAny_bind (tupleItemsOf_ ht ?_)
 refine wpAny_bind (wpAny_typeOf hTs ?_)
 rw [if_pos (by decide)]
 refine wpAny_bind (sliceApplied_gen hs pl pu ?_)
 have hno : ¬ ((((sIx items.size 0 lo : Nat) : Int) == 0 && (1 : Int) == 1 && (sIx items.size items.size hi - sIx items.size 0 lo) == items.size) = true) := by
  intro q
  rw [Bool.and_eq_true, Bool.and_eq_true] at q
  have q1 : ((sIx items.size 0 lo : Nat) : Int) = 0 := eq_of_beq q.1.1
  have q2 : sIx items.size items.size hi - sIx items.size 0 lo = items.size := eq_of_beq q.2
  exact hw ⟨by omega, by omega⟩
 show wpAny _ _ (if (((sIx items.size 0 lo : Nat) : Int) == 0 && (1 : Int) == 1 && (sIx items.size items.size hi - sIx items.size 0 lo) == items.size) = true then _ else _) _ _ s
 rw [if_neg hno, zid]
 first
  | exact wpAny_bind (m := Builtin.Tuple.tupleExact _) (wpAny_newObj_type (wpAny_pure ⟨_, rfl, wpAny_pure h⟩) htake)
  | exact wpAny_bind (m := Builtin.Tuple.tupleExact _) (wpAny_newObj_type (wpAny_bind (wpAny_pure (wpAny_pure ⟨_, rfl, wpAny_pure h⟩))) htake)
  | exact wpAny_bind (wpAny_bind (m := Builtin.Tuple.tupleExact _) (wpAny_newObj_type (wpAny_pure (wpAny_pure ⟨_, rfl, wpAny_pure h⟩)) htake))
  | exact wpAny_bind (wpAny_bind (m := Builtin.Tuple.tupleExact _) (wpAny_newObj_type (wpAny_pure ⟨_, rfl, wpAny_pure h⟩) htake))
end
end HT
namespace L2
open PySem PySem.Spec PyProof.Rows
abbrev TO := St → Hp → (Option Int → Hp → Prop) → Prop
def PO (X : Cx) (e : Option Expr) (t : TO) : Prop :=
 ∀ (pins : List (Addr × Obj)) (s : Shared) (σ : St) (H : Hp) (Q : Option Int → Hp → Prop), Inv X pins σ H s → t σ H Q →
  wpAny (model X.prog X.w) X.A (evalPart e X.env) (fun u s' => ∃ o H', Inv X pins σ H' s' ∧ IsPart u o ∧ Q o H') X.xe s
def zgL : TO := fun _ H Q => Q none H
def zj8 (t : TE) : TO := fun σ H Q => t σ H fun x H1 => ∃ i, x = .int i ∧ Q (some i) H1
section
variable {X : Cx} {e : Expr} {te : TE} {lo hi : Option Expr} {tl th : TO} {pos p2 : Pos}
theorem zcq : PO X none zgL := by
 intro pins s σ H Q I h
 rw [evalPart_none]
 exact wpAny_pure ⟨none, H, I, .none, h⟩
theorem zcp (h : PE X e te) : PO X (some e) (zj8 te) := by
 intro pins s σ H Q I hw
 rw [evalPart_some]
 refine thn (h pins s σ H _ I hw) fun u s1 ⟨x, H1, I1, r1, q1⟩ => ?_
 obtain ⟨i, rfl, q⟩ := q1
 obtain ⟨t, rfl⟩ := r1
 exact ⟨some i, H1, I1, .int i t, q⟩
def SlR (X : Cx) (r : V → Option Int → Option Int → Hp → VK → Prop) : Prop :=
 ∀ (pins : List (Addr × Obj)) (s : Shared) (σ : St) (H : Hp) (x : V) (v vl vu : Value) (lo hi : Option Int) (sl : Addr) (Q : VK), Inv X pins σ H s → RelV x v → s.heap.IsSliceOf sl vl vu .none → IsPart vl lo → IsPart vu hi → r x lo hi H Q →
  ∃ T id, typeLookup (.type T) "__getitem__" = pure (some (.builtin id)) ∧ s.TypeIs v T ∧ wpAny (model X.prog X.w) X.A (getItem v (.ref sl)) (EP X pins σ Q) X.xe s
def tSl (r : V → Option Int → Option Int → Hp → VK → Prop) (te : TE) (tl th : TO) : TE := fun σ H Q => te σ H fun x H1 => tl σ H1 fun l H2 => th σ H2 fun u H3 => r x l u H3 Q
theorem zbM {r : V → Option Int → Option Int → Hp → VK → Prop} (hr : SlR X r) (he : PE X e te) (hl : PO X lo tl) (hu : PO X hi th) : PE X (.Subscript e (.Slice lo hi none p2) pos) (tSl r te tl th) := by
 intro pins s σ H Q I h
 refine Subscript_ (thn (he pins s σ H _ I h) fun v s1 ⟨x, H1, I1, r1, q1⟩ => ?_)
 refine wpAny_Slice (thn (hl pins s1 σ H1 _ I1 q1) fun vl s2 ⟨l, H2, I2, pl, q2⟩ => thn (hu pins s2 σ H2 _ I2 q2) fun vu s3 ⟨u, H3, I3, pu, q3⟩ => ?_)
 rw [evalPart_none]
 refine wpAny_pure ?_
 have I4 : Inv X pins σ H3 { s3 with heap := s3.heap.push { cls := .type "slice", data := .fields #[vl, vu, .none] } } := I3.kept (t' := s3.toks) fun b ob q => Heap.get?_push_of_some _ q
 obtain ⟨T, id, hT, ht, hg⟩ := hr pins { s3 with heap := s3.heap.push { cls := .type "slice", data := .fields #[vl, vu, .none] } } σ H3 x v vl vu l u s3.heap.objs.size Q I4 r1 (Heap.IsSliceOf.new ..) pl pu q3
 show wpAny (model X.prog X.w) X.A (subscriptTail e (.Slice lo hi none p2) v (.ref s3.heap.objs.size)) (EP X pins σ Q) X.xe { s3 with heap := s3.heap.push { cls := .type "slice", data := .fields #[vl, vu, .none] } }
 exact tail_any (ops := [.ref s3.heap.objs.size, v]) ht hT hg (by with_unfolding_all rfl)
def cutV (xs : List V) (lo hi : Option Int) : List V := (xs.drop (HT.sIx xs.length 0 lo)).take (HT.sIx xs.length xs.length hi - HT.sIx xs.length 0 lo)
theorem zdt (xs : List V) (lo hi : Option Int) : (cutV xs lo hi).length ≤ xs.length := by
 unfold cutV
 rw [List.length_take, List.length_drop]
 omega
def rSlT (K : PySem.W.Frag) : V → Option Int → Option Int → Hp → VK → Prop := fun x lo hi H Q => ∃ a xs, x = .ref a ∧ SqT K H a xs ∧
 ¬ (HT.sIx xs.length 0 lo = 0 ∧ HT.sIx xs.length xs.length hi = xs.length) ∧ ∀ p, H p = none → Q (.ref p) (upd H p (.tup (cutV xs lo hi)))
theorem zjv : SlR X (rSlT X.K) := by
 intro pins s σ H x v vl vu lo hi sl Q I rx hs pl pu h
 obtain ⟨a, xs, rfl, hx, hw, q⟩ := h
 cases rx
 obtain ⟨its, r, ht, hz⟩ := I.tuple hx
 have hlen : its.toArray.size = xs.length := by rw [List.size_toArray]; exact r.length.symm
 refine ⟨"tuple", _, PyProof.Rows.slot_tuple_getitem.lookup, ht.typeIs, ?_⟩
 refine HT.getItem_tuple_cut ht hs pl pu (by rw [hlen]; exact hw) ?_ (by rw [hlen]; exact hz)
 rw [hlen]
 refine ⟨.ref s.heap.objs.size, _, I.laid (t' := s.toks) (o := .tup (cutV xs lo hi)) (fun b ob q => Heap.get?_push_of_some _ q) (Nat.le_refl _) ?_, rfl, q _ (I.hok.fresh (Nat.le_refl _))⟩
 exact ⟨Nat.le_trans (zdt xs lo hi) hz, _, (r.drop (HT.sIx xs.length 0 lo)).take (HT.sIx xs.length xs.length hi - HT.sIx xs.length 0 lo), IsTupP.new _ _⟩
theorem Vals.nil_iff {xs : List V} {us : List Value} (r : Vals xs us) : us = [] ↔ xs = [] := by
 cases r with
 | nil => simp
 | cons _ _ => simp
end
def ixN (n : Nat) (i : Int) : Option Nat := if 0 ≤ i then (if i < n then some i.toNat else none) else if -(n : Int) ≤ i then some (i + n).toNat else none
def atI {α : Type} (xs : List α) (i : Int) : Option α := (ixN xs.length i).bind fun j => xs[j]?
theorem zfF {n : Nat} {i : Int} {j : Nat} (h : ixN n i = some j) : seqIndex? i n = some j ∧ j < n ∧ -(n : Int) ≤ i ∧ i < n := by
 unfold ixN at h
 by_cases h0 : 0 ≤ i
 · rw [if_pos h0] at h
   by_cases h1 : i < n
   · rw [if_pos h1] at h
     have e : i.toNat = j := Option.some.inj h
     exact ⟨by rw [seqIndex_of h0 h1, e], by omega, by omega, h1⟩
   · rw [if_neg h1] at h; cases h
 · rw [if_neg h0] at h
   by_cases h1 : -(n : Int) ≤ i
   · rw [if_pos h1] at h
     have e : (i + n).toNat = j := Option.some.inj h
     exact ⟨by rw [seqIndex_neg (by omega) h1, e], by omega, h1, by omega⟩
   · rw [if_neg h1] at h; cases h
theorem zfO {α : Type} {xs : List α} {i : Int} {v : α} (h : atI xs i = some v) : ∃ j, seqIndex? i xs.length = some j ∧ xs[j]? = some v ∧ j < xs.length ∧ -(xs.length : Int) ≤ i ∧ i < xs.length := by
 unfold atI at h
 cases e : ixN xs.length i with
 | none => rw [e] at h; cases h
 | some j =>
  rw [e] at h
  obtain ⟨h1, h2, h3, h4⟩ := zfF e
  exact ⟨j, h1, h, h2, h3, h4⟩
theorem za4 {α : Type} {xs : List α} {j : Nat} {v : α} (h : xs[j]? = some v) : atI xs (j : Int) = some v := by
 have hj : j < xs.length := (List.getElem?_eq_some_iff.mp h).1
 have e : ixN xs.length (j : Int) = some j := by
  unfold ixN
  rw [if_pos (by omega), if_pos (by omega)]; simp
 unfold atI; rw [e]; exact h
def zjn (b : Expr) : Prop := ∀ o i, subscripted b false o i = operate [o, i] (getItem o i)
def IxR (X : Cx) (r : R2) : Prop :=
 ∀ (value slice : Expr) (pins : List (Addr × Obj)) (s : Shared) (σ : St) (H : Hp) (x y : V) (v u : Value) (Q : VK), Inv X pins σ H s → RelV x v → RelV y u → r x y H Q →
  subscripted slice false v u = operate [v, u] (getItem v u) → wpAny (model X.prog X.w) X.A (subscriptTail value slice v u) (EP X pins σ Q) X.xe s
def MtR (X : Cx) (id : String) (r : V → List V → Hp → VK → Prop) : Prop :=
 ∀ (pins : List (Addr × Obj)) (s : Shared) (σ : St) (H : Hp) (x : V) (xs : List V) (v : Value) (us : List Value) (Q : VK), Inv X pins σ H s → RelV x v → Vals xs us → r x xs H Q →
  wpAny (model X.prog X.w) X.A (call (.builtin id) (v :: us)) (EP X pins σ Q) X.xe s
section
variable {X : Cx} {a b : Expr} {ta tb : TE} {pos : Pos}
theorem zaF {r : R2} (hr : IxR X r) (ha : PE X a ta) (hb : PE X b tb) (hs : zjn b) : PE X (.Subscript a b pos) (tOp r ta tb) := by
 intro pins s σ H Q I h
 exact Subscript_ (binT ha hb I h fun v u s2 x y H2 I2 rx ry q => hr a b pins s2 σ H2 x y v u Q I2 rx ry q (hs _ _))
def rIxL (K : PySem.W.Frag) : R2 := fun x y H Q => ∃ p xs i v, x = .ref p ∧ y = .int i ∧ SqL K H p xs ∧ atI xs i = some v ∧ Q v H
def rIxT (K : PySem.W.Frag) : R2 := fun x y H Q => ∃ p xs i v, x = .ref p ∧ y = .int i ∧ SqT K H p xs ∧ atI xs i = some v ∧ Q v H
def rIxS : R2 := fun x y H Q => ∃ z i c, x = .str z ∧ y = .int i ∧ z.length ≤ sizeLine ∧ atI z.cps.toList i = some c ∧ Q (.str ⟨#[c]⟩) H
theorem zaw : IxR X (rIxL X.K) := by
 intro value slice pins s σ H x y v u Q I rx ry h hs
 obtain ⟨p, xs, i, z, rfl, rfl, hq, he, q⟩ := h
 cases rx
 obtain ⟨t, rfl⟩ := ry
 obtain ⟨its, r, pl, hz⟩ := I.list hq
 obtain ⟨j, h1, h2, h3, h4, h5⟩ := zfO he
 obtain ⟨w, ew, rw'⟩ := r.get h2
 have hl := r.length
 have hn := zdH
 have fin : EP X pins σ Q w s := ⟨z, H, I, rw', q⟩
 by_cases h0 : 0 ≤ i
 · have hj : i.toNat = j := by
    rw [seqIndex_of h0 h5] at h1
    exact Option.some.inj h1
   exact item_listR pl.isList h0 (by omega) (by rw [hj]; simpa using ew) fin hs
 · have hj : (i + (its.toArray.size : Int)).toNat = j := by
    rw [seqIndex_neg (by omega) h4] at h1
    rw [List.size_toArray, ← hl]
    exact Option.some.inj h1
   exact subscriptTail_builtinR (x := w) pl.isList.typeIs slot_list_getitem.lookup
    (wpAny_getItem_list_neg (Q := fun r s' => r = w ∧ EP X pins σ Q r s') pl.isList (by omega) (by rw [List.size_toArray] <;> omega) (by omega) (by rw [hj]; simpa using ew) ⟨rfl, fin⟩) hs
theorem zaZ : IxR X (rIxT X.K) := by
 intro value slice pins s σ H x y v u Q I rx ry h hs
 obtain ⟨p, xs, i, z, rfl, rfl, hq, he, q⟩ := h
 cases rx
 obtain ⟨t, rfl⟩ := ry
 obtain ⟨its, r, pl, hz⟩ := I.tuple hq
 obtain ⟨j, h1, h2, h3, h4, h5⟩ := zfO he
 obtain ⟨w, ew, rw'⟩ := r.get h2
 have hl := r.length
 have hn := zdH
 have fin : EP X pins σ Q w s := ⟨z, H, I, rw', q⟩
 exact subscriptTail_builtinR (x := w) pl.typeIs slot_tuple_getitem.lookup
  (getItem_tuple (j := j) (Q := fun r s' => r = w ∧ EP X pins σ Q r s') pl (by omega) (by omega) (by rw [List.size_toArray, ← hl]; exact h1) (by simpa using ew) ⟨rfl, fin⟩) hs
theorem ziQ : IxR X rIxS := by
 intro value slice pins s σ H x y v u Q I rx ry h hs
 obtain ⟨z, i, c, rfl, rfl, hz, he, q⟩ := h
 obtain ⟨t, rfl⟩ := rx
 obtain ⟨t', rfl⟩ := ry
 obtain ⟨j, h1, h2, h3, h4, h5⟩ := zfO he
 have hl : z.cps.toList.length = z.length := by simp [Str.length]
 rw [hl] at h1 h4 h5
 have hn := zdH
 exact tail_any (typeIs_str s z t) slot_str_getitem.lookup (getItem_str (c := c) (by
  have e1 : decide (i < -(2 ^ 63 : Int)) = false := decide_eq_false (by omega)
  have e2 : decide (i ≥ 2 ^ 63) = false := decide_eq_false (by omega)
  rw [e1, e2, Bool.or_false]) (by rw [h1]; simpa using h2) ⟨.str ⟨#[c]⟩, H, I.tok _, ⟨_, rfl⟩, q⟩) hs
theorem zgB (its : List Value) (n j : Nat) (u : Value) : Obj.mapSeq (·.setIfInBounds j u) { cls := .type "list", data := .seq its.toArray n } = { cls := .type "list", data := .seq (its.set j u).toArray n } := by
 simp [Obj.mapSeq]
theorem Inv.lst {pins : List (Addr × Obj)} {σ : St} {H : Hp} {s : Shared} {p : Addr} {xs : List V} (I : Inv X pins σ H s) (h : H p = some (.lst xs)) :
 ∃ (its : List Value) (n : Nat), Vals xs its ∧ s.heap.get? p = some { cls := .type "list", data := .seq its.toArray n } ∧ xs.length ≤ sizeLine := by
 obtain ⟨z, its, n, r, e⟩ := I.hok p _ h
 exact ⟨its, n, r, e, z⟩
theorem Inv.lstUpd {pins : List (Addr × Obj)} {σ : St} {H : Hp} {s : Shared} {p : Addr} {xs ys : List V} {its its' : List Value} {n n' : Nat} {f : Obj → Obj} (I : Inv X pins σ H s) (h : H p = some (.lst xs))
 (ho : s.heap.get? p = some { cls := .type "list", data := .seq its.toArray n }) (hf : f { cls := .type "list", data := .seq its.toArray n } = { cls := .type "list", data := .seq its'.toArray n' }) (r : Vals ys its') (hz : ys.length ≤ sizeLine) (t : Nat) :
 Inv X pins σ (upd H p (.lst ys)) { s with heap := s.heap.update p f, toks := t } := by
 have e : (s.heap.update p f).get? p = some { cls := .type "list", data := .seq its'.toArray n' } := by
  rw [Heap.get?_update_self f ho (by rw [hf] <;> rfl), hf]
 refine I.write (x := p) (e := p) (by rw [h]; trivial) (.inl rfl) (fun b u hb q => (Heap.get?_update_other _ _ (Ne.symm hb)).trans q) ⟨_, e⟩ ?_
 exact ⟨hz, its', n', r, e⟩
def zkg : V → V → V → Hp → (Hp → Prop) → Prop := fun o i v H Q => ∃ p xs k j, o = .ref p ∧ i = .int k ∧ H p = some (.lst xs) ∧ ixN xs.length k = some j ∧ Q (upd H p (.lst (xs.set j v)))
theorem zdX : PSet X zkg := by
 intro pins s σ H o i v ov iv u Q I ro ri rv h
 obtain ⟨p, xs, k, j, rfl, rfl, hp, hj, q⟩ := h
 cases ro
 obtain ⟨t, rfl⟩ := ri
 obtain ⟨its, n, r, ho, hz⟩ := I.lst hp
 obtain ⟨h1, h2, h3, h4⟩ := zfF hj
 have hl := r.length
 have hn := zdH
 have I' : Inv X pins σ (upd H p (.lst (xs.set j v))) { s with heap := s.heap.update p (Obj.mapSeq (·.setIfInBounds j u)) } :=
  I.lstUpd hp ho (zgB its n j u) (r.set rv j) (by rw [List.length_set]; exact hz) s.toks
 by_cases h0 : 0 ≤ k
 · have hk : k.toNat = j := by
    rw [seqIndex_of h0 h4] at h1
    exact Option.some.inj h1
   exact PySem.W.ki_setAt ho h0 (by omega) (by rw [List.size_toArray, ← hl]; exact h4) (by rw [hk]; exact ⟨_, I', q⟩)
 · have hk : (k + (its.toArray.size : Int)).toNat = j := by
    rw [seqIndex_neg (by omega) h3] at h1
    rw [List.size_toArray, ← hl]
    exact Option.some.inj h1
   exact PySem.W.ki_setBack ho (by omega) (by rw [List.size_toArray, ← hl]; exact h3) (by omega) (by rw [hk]; exact ⟨_, I', q⟩)
theorem zes (lo hi : Option Int) (n : Nat) : (sliceBounds lo hi none n).1 = ((HT.sIx n 0 lo : Nat) : Int) ∧ (sliceBounds lo hi none n).2.1 = ((HT.sIx n n hi : Nat) : Int) ∧ (sliceBounds lo hi none n).2.2 = 1 := by
 refine ⟨?_, ?_, rfl⟩
 · cases lo with
   | none => simp [sliceBounds, HT.sIx]
   | some i =>
    simp only [sliceBounds, HT.sIx, Option.getD_none, show (1 : Int) > 0 by decide, if_true]
    by_cases h : i < 0
    · simp only [h, if_true] <;> omega
    · simp only [h, if_false] <;> omega
 · cases hi with
   | none => simp [sliceBounds, HT.sIx]
   | some i =>
    simp only [sliceBounds, HT.sIx, Option.getD_none, show (1 : Int) > 0 by decide, if_true]
    by_cases h : i < 0
    · simp only [h, if_true] <;> omega
    · simp only [h, if_false] <;> omega
theorem zdW (its : List Value) (lo hi : Option Int) : slicePick its.toArray lo hi none = ((its.drop (HT.sIx its.length 0 lo)).take (HT.sIx its.length its.length hi - HT.sIx its.length 0 lo)).toArray := by
 obtain ⟨h1, h2, h3⟩ := zes lo hi its.toArray.size
 unfold slicePick
 rw [h1, h2, h3]
 simp only [sliceRange_one, pick_run, List.size_toArray] <;> rfl
def rSlL (K : PySem.W.Frag) : V → Option Int → Option Int → Hp → VK → Prop := fun x lo hi H Q => ∃ a xs, x = .ref a ∧ SqL K H a xs ∧ ∀ p, H p = none → Q (.ref p) (upd H p (.lst (cutV xs lo hi)))
theorem zfe : SlR X (rSlL X.K) := by
 intro pins s σ H x v vl vu lo hi sl Q I rx hs pl pu h
 obtain ⟨a, xs, rfl, hx, q⟩ := h
 cases rx
 obtain ⟨its, r, ht, hz⟩ := I.list hx
 have hlen := r.length
 refine ⟨"list", _, slot_list_getitem.lookup, ht.isList.typeIs, ?_⟩
 refine wpAny_getItem_list_slice ht.isList hs pl pu .none (by simp) ?_ (by rw [List.size_toArray] <;> omega)
 rw [zdW, ← hlen]
 refine ⟨.ref s.heap.objs.size, _, I.laid (t' := s.toks) (o := .lst (cutV xs lo hi)) (fun b ob q => Heap.get?_push_of_some _ q) (Nat.le_refl _) ?_, rfl, q _ (I.hok.fresh (Nat.le_refl _))⟩
 exact ⟨Nat.le_trans (zdt xs lo hi) hz, _, 0, (r.drop (HT.sIx xs.length 0 lo)).take (HT.sIx xs.length xs.length hi - HT.sIx xs.length 0 lo), Heap.get?_push_size _ rfl⟩
theorem zeC : OpR X (compareOp .NotIn) (fun x y H Q => ∃ i j, x = .str i ∧ y = .str j ∧ Q (.bl (!(!(Builtin.Str.occurrences j i 0 j.length 1).isEmpty))) H) := by
 intro pins s σ H x y v u Q I rx ry h
 obtain ⟨i, j, rfl, rfl, q⟩ := h
 obtain ⟨t, rfl⟩ := rx
 obtain ⟨t', rfl⟩ := ry
 exact notIn_str ⟨.bl _, H, I, rfl, q⟩
theorem zat : zdw X (.builtin "len") (fun xs H Q => ∃ p ys, xs = [.ref p] ∧ (SqL X.K H p ys ∨ SqT X.K H p ys) ∧ Q (.int ys.length) H) := by
 intro pins s σ H xs us Q I r h
 obtain ⟨p, ys, rfl, hq, q⟩ := h
 obtain ⟨u, rfl, rx⟩ := zeo r
 cases rx
 have hn := zdH
 rcases hq with hq | hq
 · obtain ⟨its, r', pl, hz⟩ := I.list hq
   have hlen := r'.length
   exact Calls.call_len_list pl.isList (by simp only [List.size_toArray] <;> omega) ⟨.int ys.length, H, I.tok _, ⟨s.toks + 1, by rw [List.size_toArray, hlen]⟩, q⟩
 · obtain ⟨its, r', pl, hz⟩ := I.tuple hq
   have hlen := r'.length
   exact len_tuple pl (by simp only [List.size_toArray] <;> omega) ⟨.int ys.length, H, I.tok _, ⟨s.toks + 1, by rw [List.size_toArray, hlen]⟩, q⟩
theorem zb4 : zdw X (.builtin "len") (fun xs H Q => ∃ z, xs = [.str z] ∧ z.length ≤ sizeLine ∧ Q (.int z.length) H) := by
 intro pins s σ H xs us Q I r h
 obtain ⟨z, rfl, hz, q⟩ := h
 obtain ⟨u, rfl, t, rfl⟩ := zeo r
 have hn := zdH
 exact len_str (by omega) ⟨.int z.length, H, I.tok _, ⟨_, rfl⟩, q⟩
theorem zeR : zdw X (.type "list") (fun xs H Q => ∃ p ys, xs = [.ref p] ∧ (SqL X.K H p ys ∨ SqT X.K H p ys) ∧ ∀ l, H l = none → Q (.ref l) (upd H l (.lst ys))) := by
 intro pins s σ H xs us Q I r h
 obtain ⟨p, ys, rfl, hq, q⟩ := h
 obtain ⟨u, rfl, rx⟩ := zeo r
 cases rx
 have fin : ∀ (its : List Value), Vals ys its → ys.length ≤ sizeLine → ∀ (h' : Heap) (c' : Nat), (∀ b o', s.heap.get? b = some o' → h'.get? b = some o') →
  h'.get? s.heap.objs.size = some { cls := .type "list", dict := none, data := .seq its.toArray c', slots := #[] } → EP X pins σ Q (.ref s.heap.objs.size) { s with heap := h' } := fun its r' hz h' c' kp e =>
  ⟨.ref s.heap.objs.size, _, I.laid (t' := s.toks) kp (Nat.le_refl _) (show ObjOk X.prog X.w _ h' _ (.lst ys) from ⟨hz, its, c', r', e⟩), rfl, q _ (I.hok.fresh (Nat.le_refl _))⟩
 rcases hq with hq | hq
 · obtain ⟨its, r', pl, hz⟩ := I.list hq
   have hlen := r'.length
   obtain ⟨o, ho, hc, n, hd⟩ := pl.isList
   exact call_list_seq p (.inl rfl) ho hc hd (fun h' c' kp e => fin its r' hz h' c' kp e) (by simp only [List.size_toArray] <;> omega)
 · obtain ⟨its, r', pl, hz⟩ := I.tuple hq
   have hlen := r'.length
   obtain ⟨o, ho, hc, n, hd⟩ := pl
   exact call_list_seq p (.inr rfl) ho hc hd (fun h' c' kp e => fin its r' hz h' c' kp e) (by simp only [List.size_toArray] <;> omega)
theorem zeh : zdw X (.type "tuple") (fun xs H Q => ∃ p ys, xs = [.ref p] ∧ ((SqL X.K H p ys ∧ ∀ l, H l = none → Q (.ref l) (upd H l (.tup ys))) ∨ (SqT X.K H p ys ∧ Q (.ref p) H))) := by
 intro pins s σ H xs us Q I r h
 obtain ⟨p, ys, rfl, h⟩ := h
 obtain ⟨u, rfl, rx⟩ := zeo r
 cases rx
 rcases h with ⟨hq, q⟩ | ⟨hq, q⟩
 · obtain ⟨its, r', pl, hz⟩ := I.list hq
   have hlen := r'.length
   refine call_tuple_list pl.isList (fun h' kp => ?_) (by simp only [List.size_toArray] <;> omega)
   have I1 : Inv X pins σ H { s with heap := h' } := I.kept (t' := s.toks) kp
   have I2 : Inv X pins σ (upd H h'.objs.size (.tup ys)) { s with heap := h'.push { cls := .type "tuple", data := .seq its.toArray } } :=
    I1.laid (t' := s.toks) (fun b o e => Heap.get?_push_of_some _ e) (Nat.le_refl _) (show ObjOk X.prog X.w _ _ _ (.tup ys) from ⟨hz, its, r', IsTupP.new _ _⟩)
   exact ⟨.ref h'.objs.size, _, I2, rfl, q _ (I1.hok.fresh (Nat.le_refl _))⟩
 · obtain ⟨its, r', pl, hz⟩ := I.tuple hq
   exact call_tuple_same pl ⟨.ref p, H, I, rfl, q⟩
def tyV (K : PySem.W.Frag) (T : String) (x : V) (H : Hp) : Prop := match x with
 | .str _ => T = "str"
 | .int _ => T = "int"
 | .ref p => (T = "list" ∧ ∃ xs, SqL K H p xs) ∨ (T = "tuple" ∧ ∃ o, K.lookup p = some o ∧ o.cls = .type "tuple" ∧ o.dict = none) ∨
  (T = "dict" ∧ ((∃ kvs, H p = some (.dK kvs)) ∨ ∃ kvs, H p = some (.dT kvs))) ∨ (T = "set" ∧ ∃ S n, H p = some (.set S n))
 | _ => False
theorem ziB {pins : List (Addr × Obj)} {σ : St} {H : Hp} {s : Shared} {T : String} {x : V} {v : Value} (I : Inv X pins σ H s) (r : RelV x v) (ty : tyV X.K T x H) :
 s.TypeIs v T ∧ ∀ a, v = .ref a → ∃ ob, s.heap.get? a = some ob ∧ ob.dict = none := by
 cases x with
 | str z =>
  obtain ⟨t, rfl⟩ := r
  cases (show T = "str" from ty)
  exact ⟨typeIs_str s z t, fun _ e => nomatch e⟩
 | int i =>
  obtain ⟨t, rfl⟩ := r
  cases (show T = "int" from ty)
  exact ⟨typeIs_int s i t, fun _ e => nomatch e⟩
 | ref p =>
  cases r
  rcases ty with ⟨rfl, xs, hq⟩ | ⟨rfl, o, hk, hc, hd⟩ | ⟨rfl, hk⟩ | ⟨rfl, S, n, hk⟩
  · obtain ⟨its, _, pl, _⟩ := I.list hq
    refine ⟨pl.isList.typeIs, fun a e => ?_⟩
    cases e
    obtain ⟨o, n, e, c, hd, _⟩ := pl
    exact ⟨o, e, hd⟩
  · refine ⟨⟨o, I.kIn p o hk, hc⟩, fun a e => ?_⟩
    cases e
    exact ⟨o, I.kIn _ o hk, hd⟩
  · have z : ∃ o, s.heap.get? p = some o ∧ o.ExactDict := by
     rcases hk with ⟨kvs, hk⟩ | ⟨kvs, hk⟩
     · obtain ⟨_, _, _, _, o, _, _, e, ex, _⟩ := I.hok p _ hk
       exact ⟨o, e, ex⟩
     · obtain ⟨_, _, _, _, o, _, _, e, ex, _⟩ := I.hok p _ hk
       exact ⟨o, e, ex⟩
    obtain ⟨o, e, ex⟩ := z
    refine ⟨⟨o, e, ex.1⟩, fun a e2 => ?_⟩
    cases e2
    exact ⟨o, e, ex.2.1⟩
  · obtain ⟨o, _, _, _, e, ex, _⟩ := I.hok p _ hk
    refine ⟨⟨o, e, ex.1⟩, fun a e2 => ?_⟩
    cases e2
    exact ⟨o, e, ex.2.1⟩
 | _ => exact False.elim ty
def tBM0 (K : PySem.W.Frag) (T : String) (r : V → List V → Hp → VK → Prop) (to : TE) : TE := fun σ H Q => to σ H fun x H1 => tyV K T x H1 ∧ r x [] H1 Q
def tBM (K : PySem.W.Frag) (T : String) (r : V → List V → Hp → VK → Prop) (to : TE) (t : TA) : TE := fun σ H Q => to σ H fun x H1 => tyV K T x H1 ∧ t σ H1 fun xs H2 => r x xs H2 Q
variable {o e : Expr} {es : List Expr} {to : TE} {t : TA} {name : Str} {apos cpos : Pos} {T id : String} {r : V → List V → Hp → VK → Prop}
theorem zjI (pa : PlainAttrs T) (slot : Slot T name id) (hty : typeOf (.builtin id) = pure (.type "method_descriptor")) (hm : MtR X id r) (ho : PE X o to)
 (hbase : attributeBase o name X.env (eval o X.env) = eval o X.env := by rfl) (hline : (apos.endLine == cpos.line) = true := by rfl) : PE X (.Call (.Attribute o name apos) [] [] cpos) (tBM0 X.K T r to) := by
 intro pins s σ H Q I h
 refine wpAny_Call_method0_late hbase hline (thn (ho pins s σ H _ I h) fun v s1 ⟨x, H1, I1, r1, ty, q1⟩ => ?_)
 obtain ⟨h1, h2⟩ := ziB I1 r1 ty
 exact ⟨T, id, pa, slot, hty, h1, h2, Calls.callWith_builtin rfl (PySem.evalArgs_none (hm pins s1 σ H1 x [] v [] Q I1 r1 .nil q1))⟩
theorem zdi (pa : PlainAttrs T) (slot : Slot T name id) (hty : typeOf (.builtin id) = pure (.type "method_descriptor")) (hm : MtR X id r) (ho : PE X o to) (ha : PA X (e :: es) t)
 (hbase : attributeBase o name X.env (eval o X.env) = eval o X.env := by rfl)
 (hfew : ((backTo cpos (starEach (e :: es) X.env)).all (fun x => !x.1) && (backToKw cpos (keywordEach [] X.env)).all (fun x => x.1.isSome)
  && decide ((e :: es).length + ([] : List Keyword).length + (if ([] : List Keyword).isEmpty then 0 else 1) < 30)) = true := by rfl)
 (hline : (apos.endLine == cpos.line) = true := by rfl) (hs : starEach (e :: es) X.env = (false, eval e X.env) :: starEach es X.env := by rfl) (hplain : (backTo cpos (starEach es X.env)).any (·.1) = false := by rfl) :
 PE X (.Call (.Attribute o name apos) (e :: es) [] cpos) (tBM X.K T r to t) := by
 intro pins s σ H Q I h
 refine wpAny_Call_method_late hbase hfew hline rfl (thn (ho pins s σ H _ I h) fun v s1 ⟨x, H1, I1, r1, ty, q1⟩ => ?_)
 obtain ⟨h1, h2⟩ := ziB I1 r1 ty
 refine ⟨T, id, pa, slot, hty, h1, h2, ?_⟩
 have hA := ha cpos pins s1 σ H1 _ I1 q1
 rw [hs] at hA ⊢
 refine Calls.callWith_builtin (by show (false || (backTo cpos (starEach es X.env)).any (·.1)) = false; rw [hplain] <;> rfl) (Calls.evalArgs_plain ?_)
 exact thn hA fun us s2 ⟨vs, H2, I2, r2, q2⟩ => hm pins s2 σ H2 x vs v us Q I2 r1 r2 q2
end
def MtM (X : Cx) (id : String) (r : V → List V → Hp → VK → Prop) : Prop :=
 ∀ (pins : List (Addr × Obj)) (s : Shared) (σ : St) (H : Hp) (x : V) (xs : List V) (v : Value) (us : List Value) (Q : VK), Inv X pins σ H s → RelV x v → Vals xs us → r x xs H Q →
  wpAny (model X.prog X.w) X.A (call (.builtin id) (v :: us)) (EP X pins σ Q) X.xe s
theorem Vals.one : ∀ {x : V} {us : List Value}, Vals [x] us → ∃ u, us = [u] ∧ RelV x u
 | _, _, .cons r .nil => ⟨_, rfl, r⟩
theorem Vals.zero : ∀ {us : List Value}, Vals [] us → us = []
 | _, .nil => rfl
theorem Vals.eraseIdx : ∀ {xs : List V} {us : List Value} (i : Nat), Vals xs us → Vals (xs.eraseIdx i) (us.eraseIdx i)
 | _, _, _, .nil => .nil
 | _, _, 0, .cons _ t => t
 | _, _, i + 1, .cons r t => .cons r (Vals.eraseIdx i t)
theorem zeK {α : Type} : ∀ (l : List α) (i : Nat), (l.eraseIdx i).length ≤ l.length
 | [], _ => Nat.le_refl _
 | _ :: _, 0 => Nat.le_succ _
 | _ :: r, i + 1 => Nat.succ_le_succ (zeK r i)
section
variable {X : Cx} {pins : List (Addr × Obj)} {σ : St} {H : Hp} {s : Shared} {l b : Addr} {xs ys zs : List V}
theorem Inv.lset {its its' : List Value} {n : Nat} {f : Array Value → Array Value} {t' : Nat} (I : Inv X pins σ H s) (hH : H l = some (.lst xs))
 (e : s.heap.get? l = some { cls := .type "list", data := .seq its.toArray n }) (hf : f its.toArray = its'.toArray) (hv : Vals ys its') (hz : ys.length ≤ sizeLine) :
 Inv X pins σ (upd H l (.lst ys)) { s with heap := s.heap.update l (Obj.mapSeq f), toks := t' } := by
 have q := PySem.IsL.update e f
 rw [hf] at q
 refine I.write (x := l) (e := l) (by rw [hH]; exact trivial) (.inl rfl) (fun b' u hb hu => (Heap.get?_update_other s.heap (Obj.mapSeq f) (Ne.symm hb)).trans hu) ⟨_, q⟩ ?_
 exact ⟨hz, its', _, hv, q⟩
theorem Inv.lnew {its : List Value} {t' : Nat} (I : Inv X pins σ H s) (hv : Vals ys its) (hz : ys.length ≤ sizeLine) :
 Inv X pins σ (upd H s.heap.objs.size (.lst ys)) { s with heap := s.heap.push { cls := .type "list", data := .seq its.toArray }, toks := t' } :=
 I.laid (fun _ _ q => Heap.get?_push_of_some _ q) (Nat.le_refl _) ⟨hz, its, 0, hv, Heap.get?_push_size _ rfl⟩
theorem Inv.fresh (I : Inv X pins σ H s) : H s.heap.objs.size = none := I.hok.fresh (Nat.le_refl _)
theorem Inv.lstM (I : Inv X pins σ H s) (hH : H l = some (.lst xs)) : xs.length ≤ sizeLine ∧ ∃ (its : List Value) (n : Nat), Vals xs its ∧ xs.length = its.length ∧ s.heap.get? l = some { cls := .type "list", data := .seq its.toArray n } := by
 obtain ⟨z, its, n, r, e⟩ := I.hok l _ hH
 exact ⟨z, its, n, r, r.length, e⟩
theorem zfZ {n : Nat} (h : n ≤ sizeLine) : Builtin.List.listTooLong n = false := by
 unfold Builtin.List.listTooLong
 exact decide_eq_false (by omega)
end
section
variable {X : Cx}
def zi8 : V → List V → Hp → VK → Prop := fun x vs H Q => ∃ l xs y, x = .ref l ∧ vs = [y] ∧ H l = some (.lst xs) ∧ xs.length < sizeLine ∧ Q .non (upd H l (.lst (xs ++ [y])))
theorem zbD : MtM X "list.append" zi8 := by
 intro pins s σ H x vs v us Q I rx rv h
 obtain ⟨l, xs, y, rfl, rfl, hH, hz, q⟩ := h
 cases rx
 obtain ⟨u, rfl, ru⟩ := rv.one
 obtain ⟨z, its, n, r, hl, e⟩ := I.lstM hH
 refine call_meets F.slot_list_append ⟨_, e, rfl⟩ F.entry_list_append (F.args_list_append_2 _ _) (PySem.list_append l its.toArray n u (by rw [List.size_toArray]; omega)) ⟨e, ?_⟩
 refine ⟨.non, _, I.lset (its' := its ++ [u]) hH e (by simp) (r.append (.cons ru .nil)) ?_, rfl, q⟩
 rw [List.length_append, List.length_singleton]
 omega
def zjB : V → List V → Hp → VK → Prop := fun x vs H Q => ∃ l xs i k y, x = .ref l ∧ vs = [.int i] ∧ H l = some (.lst xs) ∧ -(2 ^ 63) ≤ i ∧ i < 2 ^ 63 ∧ seqIndex? i xs.length = some k ∧ xs[k]? = some y ∧ Q y (upd H l (.lst (xs.eraseIdx k)))
theorem zij : MtM X "list.pop" zjB := by
 intro pins s σ H x vs v us Q I rx rv h
 obtain ⟨l, xs, i, k, y, rfl, rfl, hH, h1, h2, hk, hy, q⟩ := h
 cases rx
 obtain ⟨u, rfl, ru⟩ := rv.one
 obtain ⟨t, rfl⟩ := ru
 obtain ⟨z, its, n, r, hl, e⟩ := I.lstM hH
 obtain ⟨w, hw, rw'⟩ := r.get hy
 refine call_meets F.slot_list_pop ⟨_, e, rfl⟩ F.entry_list_pop (F.args_list_pop_2 _ _)
  (MeetsSeq.list_pop_at l its.toArray n i t k w (fitsIndex_both h1 h2) (by rw [List.size_toArray, ← hl]; exact hk) (by rw [← Array.getElem?_toList]; exact hw) (by rw [List.size_toArray]; omega)) ⟨e, ?_⟩
 refine ⟨y, _, I.lset (its' := its.eraseIdx k) hH e ?_ (r.eraseIdx k) ?_, rw', q⟩
 · show its.toArray.eraseIdxIfInBounds k = (its.eraseIdx k).toArray
   rw [List.eraseIdxIfInBounds_toArray]
 · have := zeK xs k
   omega
def zjD : V → List V → Hp → VK → Prop := fun x vs H Q => ∃ l xs, x = .ref l ∧ vs = [] ∧ H l = some (.lst xs) ∧ Q .non (upd H l (.lst []))
theorem zik : MtM X "list.clear" zjD := by
 intro pins s σ H x vs v us Q I rx rv h
 obtain ⟨l, xs, rfl, rfl, hH, q⟩ := h
 cases rx
 have hus := rv.zero
 subst hus
 obtain ⟨z, its, n, r, hl, e⟩ := I.lstM hH
 refine call_meets F.slot_list_clear ⟨_, e, rfl⟩ F.entry_list_clear (F.args_list_clear_1 _) (AutoSeq1.list_clear_list_0 l its.toArray n (by rw [List.size_toArray]; omega)) ⟨e, ?_⟩
 exact ⟨.non, _, I.lset (its' := []) (ys := []) hH e rfl .nil (Nat.zero_le _), rfl, q⟩
def rCat : R2 := fun x y H Q => ∃ l b xs zs, x = .ref l ∧ y = .ref b ∧ H l = some (.lst xs) ∧ H b = some (.lst zs) ∧ xs.length + zs.length ≤ sizeLine ∧ ∀ p, H p = none → Q (.ref p) (upd H p (.lst (xs ++ zs)))
theorem zjN : OpR X (binaryOp .Add) rCat := by
 intro pins s σ H x y v u Q I rx ry h
 obtain ⟨l, b, xs, zs, rfl, rfl, hH, hB, hz, q⟩ := h
 cases rx
 cases ry
 obtain ⟨z, its, n, r, hl, e⟩ := I.lstM hH
 obtain ⟨z2, its2, n2, r2, hl2, e2⟩ := I.lstM hB
 refine PySem.P.add_list e e2 ?_ (by rw [List.size_toArray, List.size_toArray]; omega)
 have ea : its.toArray ++ its2.toArray = (its ++ its2).toArray := by simp
 rw [ea]
 exact ⟨.ref _, _, I.lnew (t' := s.toks) (r.append r2) (by rw [List.length_append]; omega), rfl, q _ I.fresh⟩
end
section
variable {prog : Program} {w : World} {A : Around} {E : Value → Shared → Prop} {s : Shared}
theorem zgG {a c n : Nat} (hac : a ≤ c) (hc : c ≤ n) : sliceBounds (some (a : Int)) (some (c : Int)) none n = ((a : Int), (c : Int), 1) := by
 simp only [sliceBounds, Option.getD_none]
 have h1 : ¬ ((a : Int) < 0) := by omega
 have h2 : ¬ ((c : Int) < 0) := by omega
 simp only [h1, h2, if_false, show (1 : Int) > 0 by decide, if_true]
 congr 1
 · omega
 · congr 1; omega
set_option maxRecDepth 100000 in
theorem setItem_slice {l b sl : Addr} {items new : Array Value} {n n2 : Nat} {vl vu : Value} {a c : Nat} {Q : Unit → Shared → Prop}
 (e : s.heap.get? l = some { cls := .type "list", data := .seq items n }) (e2 : s.heap.get? b = some { cls := .type "list", data := .seq new n2 }) (hne : l ≠ b)
 (hs : s.heap.IsSliceOf sl vl vu .none) (pl : IsPart vl (some (a : Int))) (pu : IsPart vu (some (c : Int))) (hac : a ≤ c) (hc : c ≤ items.size)
 (hsz : items.size + new.size ≤ sizeLine) (h : Q () { s with heap := s.heap.update l (Obj.mapSeq fun xs => xs.extract 0 a ++ new ++ xs.extract c xs.size) }) :
 wpAny (model prog w) A (setItem (.ref l) (.ref sl) (.ref b)) Q E s := by
 have hl : s.heap.IsList l items := PySem.IsL.isList e
 have hb : s.heap.IsList b new := PySem.IsL.isList e2
 obtain ⟨os, hos, hcs, hds⟩ := id hs
 have hTs : s.TypeIs (.ref sl) "slice" := ⟨os, hos, hcs⟩
 have hstep : ¬ ((rawPart none == rawInt 0) = true) := Bool.false_ne_true
 have hsame : Builtin.List.listSameRef (.ref l) (.ref b) = false := by
  unfold Builtin.List.listSameRef
  exact beq_eq_false_iff_ne.mpr hne
 have hmax : (max (a : Int) (c : Int)).toNat = c := by omega
 have hz' : ((fun xs : Array Value => xs.extract 0 a ++ new ++ xs.extract c xs.size) items).size ≤ sizeLine + 1 := by
  simp only [Array.size_append, Array.size_extract]
  omega
 unfold setItem
 try with_reducible refine wpAny_holding ?_
 first | refine wpAny_bind (wpAny_pure ?_) | skip
 refine wpAny_bind (wpAny_sequenceKey hl.typeIs (by decide) ?_)
 refine wpAny_bind (wpAny_callSpecial?_slot (name := Str.ofString "__setitem__") hl.typeIs slot_list_setitem
  (wpAny_call_entry slot_list_setitem hl.typeIs entry_list_setitem ?_ (args_list_setitem _ _ _)))
 show wpAny _ _ (Builtin.List.listSubscript? (.ref sl) >>= _) _ _ s
 refine wpAny_bind ?_
 unfold Builtin.List.listSubscript?
 refine wpAny_bind (wpAny_specialOf hTs slice_no_index ?_)
 simp only [Option.isNone_none, if_true]
 refine wpAny_pure ?_
 show wpAny _ _ (typeOf (.ref sl) >>= _) _ _ s
 refine wpAny_bind (wpAny_typeOf hTs ?_)
 first
  | rw [if_neg (by decide)]
  | refine PySem.W.KFB.if_not (by decide) ?_
 rw [listSliceParts_eq]
 refine wpAny_bind (wpAny_bind (wpAny_field hos hds (x := .none) rfl (wpAny_bind (wpAny_listPart .none ?_))))
 rw [if_neg hstep]
 refine wpAny_bind (wpAny_field hos hds (x := vl) rfl (wpAny_bind (wpAny_listPart pl ?_)))
 refine wpAny_bind (wpAny_field hos hds (x := vu) rfl (wpAny_bind (wpAny_listPart pu (wpAny_pure ?_))))
 first
  | simp only [hsame, Bool.false_eq_true, if_false]
  | refine PySem.W.KFB.if_not hsame ?_
  | (dsimp only
     rw [if_neg (by rw [hsame]; exact Bool.false_ne_true)])
 refine wpAny_bind (m := Builtin.List.listAllItems (.ref b) "must assign iterable to extended slice") ?_
 unfold Builtin.List.listAllItems
 refine wpAny_bind (wpAny_typeOf hb.typeIs ?_)
 first
  | refine PySem.W.KFB.if_so (by decide) ?_
  | rw [if_pos (by decide)]
  | simp only [beq_self_eq_true, Bool.true_or, if_true]
 unfold Builtin.List.listItems
 refine wpAny_bind (wpAny_seqItems e2 rfl (wpAny_pure ?_))
 refine wpAny_bind (wpAny_bind (wpAny_seqItems e rfl (wpAny_pure ?_)))
 refine wpAny_bind (wpAny_of_eq ((sliceIndices_raw (some (a : Int)) (some (c : Int)) none items.size (by simp)).trans (congrArg (pure : Int × Int × Int → Sem (Int × Int × Int)) (zgG hac hc))) ?_)
 show wpAny _ _ (if ((1 : Int) == 1) = true then _ else _) _ _ s
 rw [if_pos (by decide)]
 refine wpAny_bind (wpAny_rule ?_)
 first
  | simp only [zfZ hsz, Bool.false_eq_true, if_false]
  | refine PySem.W.KFB.if_not (zfZ hsz) ?_
 first | refine wpAny_bind (wpAny_pure ?_) | skip
 show wpAny _ _ (updateSeq l (fun xs => xs.extract 0 ((a : Int)).toNat ++ new ++ xs.extract (max (a : Int) (c : Int)).toNat xs.size) >>= _) _ _ s
 rw [hmax, Int.toNat_natCast]
 refine wpAny_bind (wpAny_updateSeq (hz := Nat.le_trans (Nat.le_add_right _ _) hsz) (_hz' := hz') e rfl ?_)
 refine wpAny_bind (wpAny_letGo ?_)
 first
  | exact wpAny_bind (wpAny_pure (wpAny_pure ⟨.none, rfl, wpAny_pure h⟩))
  | exact wpAny_pure ⟨.none, rfl, wpAny_pure h⟩
end
section
variable {X : Cx}
end
section
variable {κ : Type} [DecidableEq κ]
theorem KV.length {kvs : List (κ × V)} {vs : List (κ × Value)} (r : KV kvs vs) : kvs.length = vs.length := Paired.length r
end
section
variable {P : Program} {w : World} {H : Hp} {h : Heap} {a : Addr}
theorem zkf {u : HO} (ok : HOk P w H h) (e : Rd H a u) : ObjOk P w H h a u := e.ok ok
theorem zkp {kvs : List (Key × V)} (ok : HOk P w H h) (e : Rd H a (.dK kvs)) : kvs.length ≤ sizeLine ∧ (a == sysModules) = false ∧ ∃ vs, KV kvs vs ∧ h.DictOf (zd9 P w) a vs :=
 show ObjOk P w H h a (.dK kvs) from zkf ok e
theorem zee {kvs : List (Key × V)} (ok : HOk P w H h) (e : H a = some (.dK kvs)) : kvs.length ≤ sizeLine ∧ (a == sysModules) = false ∧ ∃ vs, KV kvs vs ∧ h.DictOf (zd9 P w) a vs := zkp ok (.inl e)
end
section
variable {X : Cx} {pins : List (Addr × Obj)} {σ : St} {H : Hp} {s : Shared} {a : Addr} {y v : V} {u r : Value} {o : Option V} {A : Around} {E : Value → Shared → Prop}
end
section
variable {X : Cx} {pins : List (Addr × Obj)} {σ : St} {H : Hp} {s : Shared} {a : Addr} {kvs : List (Key × V)} {k : Key} {u : Value} {A : Around} {E : Value → Shared → Prop}
end
section
variable {X : Cx} {o i e value : Expr} {pos pos' tpos : Pos} {td ty tv : TE}
end
section
variable {X : Cx} {pos : Pos}
end
structure M1 (X : Cx) (o : Expr) (m : Str) (apos : Pos) (e : Expr) (cpos : Pos) : Prop where
 base : attributeBase o m X.env (eval o X.env) = eval o X.env
 few : ((backTo cpos (starEach [e] X.env)).all (fun x => !x.1) && (backToKw cpos (keywordEach [] X.env)).all (fun x => x.1.isSome)
  && decide (([e] : List Expr).length + ([] : List Keyword).length + (if ([] : List Keyword).isEmpty then 0 else 1) < 30)) = true
 line : (apos.endLine == cpos.line) = true
 trees : backTo cpos (starEach [e] X.env) = [(false, eval e X.env)]
structure M2 (X : Cx) (o : Expr) (m : Str) (apos : Pos) (e f : Expr) (cpos : Pos) : Prop where
 base : attributeBase o m X.env (eval o X.env) = eval o X.env
 few : ((backTo cpos (starEach [e, f] X.env)).all (fun x => !x.1) && (backToKw cpos (keywordEach [] X.env)).all (fun x => x.1.isSome)
  && decide (([e, f] : List Expr).length + ([] : List Keyword).length + (if ([] : List Keyword).isEmpty then 0 else 1) < 30)) = true
 line : (apos.endLine == cpos.line) = true
 trees : backTo cpos (starEach [e, f] X.env) = [(false, eval e X.env), (false, eval f X.env)]
section
variable {X : Cx} {pins : List (Addr × Obj)} {σ : St} {H : Hp} {s : Shared} {a : Addr} {y d : V} {u r : Value} {o : Option V} {A : Around} {E : Value → Shared → Prop}
end
section
variable {X : Cx} {o e f : Expr} {apos cpos : Pos} {td ty tx : TE}
end
section
variable {X : Cx} {pins : List (Addr × Obj)} {σ : St} {H : Hp} {s : Shared} {a : Addr} {kvs : List (Key × V)} {A : Around} {E : Value → Shared → Prop}
end
section
variable {X : Cx} {pins : List (Addr × Obj)} {σ : St} {H : Hp} {s : Shared} {a : Addr} {y : V} {u : Value} {A : Around} {E : Value → Shared → Prop}
end
end L2
namespace Att
open PySem PySem.W PySem.Calls PyProof.Rows
theorem zdr {P : Params} {h : Heap} : ∀ (ns : List Int) (vs : List Value), WellAll P h vs (ns.map WData.int) → IntsAre vs ns := by
 intro ns
 induction ns with
 | nil =>
  intro vs w
  rw [List.map_nil] at w
  cases w
  exact .nil
 | cons n ns ih =>
  intro vs w
  rw [List.map_cons] at w
  cases w with
  | cons a b =>
   cases a
   exact .cons _ _ (ih _ b)
theorem zgW {l : OpenLaw} {n : Nat} (hn : l.most = some n) {P : Params} {h : Heap} {args : List WData} {vals : List Value}
 (hpre : l.row.toRowW.claim.pre args = true) (hwl : WellAll P h vals args) :
 ∃ a vs ns, vals = [Value.ref a] ∧ args = [WData.list (ns.map WData.int)] ∧ h.get? a = some { cls := .type "list", data := .seq vs.toArray } ∧ IntsAre vs ns ∧ ns.length ≤ n := by
 have hsh : WShape.hasAll [] args [.list .int] = true := (pre_splitW hpre).1
 have hc : l.pre.holds [] { args := args } = true := (pre_splitW hpre).2
 obtain ⟨d, r, rfl, h1, h2⟩ := hasAllW_cons hsh
 obtain rfl := hasAllW_nil h2
 obtain ⟨xs, rfl, h3⟩ := hasW_list h1
 obtain ⟨ns, rfl⟩ := items_int h3
 have hlen : ns.length ≤ n := by
  unfold OpenLaw.pre at hc
  have h4 : (WTm.not (.lt (.lit (.int (n : Int))) (.len (.arg 0)))).holds [] { args := [.list (ns.map .int)] } = true := by
   have h4 := (holds_andW hc).1
   rw [hn] at h4
   exact h4
  have h5 := condW_of h4 (w_not (w_lt w_lit (w_len_list (w_arg rfl))))
  rw [List.length_map] at h5
  refine Nat.le_of_not_lt fun q => ?_
  have q' : (n : Int) < ((ns.length : Nat) : Int) := by omega
  first
   | (rw [decide_eq_true q'] at h5; exact absurd h5 (by decide))
   | (simp at h5; omega)
 cases hwl with
 | cons w1 w2 =>
  cases w2
  cases w1 with
  | list ho hall => exact ⟨_, _, ns, rfl, rfl, ho, zdr ns _ hall, hlen⟩
theorem zg7 (l : OpenLaw) (args : List WData) : l.row.toRowW.claim.post args (.bool true) args = true :=
 postW_of (r := l.row.toRowW) (X := (true == true))
  (show WShape.has [] (.bool true) .bool = true by first | rfl | decide | simp [WShape.has, WShape.arms, WShape.armsAll])
  (show (WTm.eq .res (.lit (.bool true))).value [] { args := args, res := some (.bool true), after := args } = some (.bool (true == true)) from w_eq_bool (w_res rfl) w_lit) rfl
theorem attach_call {l : OpenLaw} {n : Nat} {q : Program} {loose : List Str} {XP : (Str → Option Value) → Heap → Prop} {YP : World → Heap → Prop} {d : DefRec}
 (hn : l.most = some n) (hdf : d.params.defaults = [])
 (call : ∀ (w : World) (s₀ s₁ : Shared) (mg mb : Str → Option Value) (fa : Addr) (o : Obj) (pm cd doc : Value) (a : Addr) (vs : List Value) (ns : List Int),
  Ground q loose [] XP w s₀ mg mb s₁.heap → YP w s₁.heap →
  s₁.heap.get? fa = some o → o.data = .func (docDef d.name d.params d.body d.scope pm cd doc) → s₁.heap.CodeRec cd d.name → mg d.name = some (.ref fa) →
  s₁.heap.get? a = some { cls := .type "list", data := .seq vs.toArray } → IntsAre vs ns → ns.length ≤ n → s₁.gens = #[] →
  codeAny (model l.prog w) callerA (.call (.ref fa) ⟨[.ref a], []⟩) (fun r s' => r = .ok (.ret (.bool true)) ∧ OldK s₁.heap s'.heap ∧ s'.os = s₁.os ∧ AllBare s'.gens) s₁) :
 WalkO q loose XP YP l.row.toRowW d [] (fun f vs => PySem.call f vs) := by
 intro w s₀ s₁ mg mb G Y fa o pm cd doc dV kV ho hd hcd hD hmg hg args vals as hpre hlay hrd hwl hlo
 obtain rfl : dV = .none := Dflts.none hD hdf
 obtain rfl : kV = .none := Dflts.noKw hD
 obtain ⟨a, vs, ns, rfl, rfl, hobj, hints, hlen⟩ := zgW hn hpre hwl
 refine enter_call (codeAny_mono (call w s₀ s₁ mg mb fa o pm cd doc a vs ns G Y ho (fd_plain hd) hcd hmg hobj hints hlen hg) fun r s' hq => ?_)
 obtain ⟨rfl, h2, h3, h4⟩ := hq
 exact ⟨.inl ⟨.bool true, .bool true, [], rfl, fun _ => rfl, .bool true, zg7 l _, fun _ => ⟨List.Pairwise.nil, fun _ hm => (nomatch hm)⟩⟩, h2, h3, h4⟩
section
variable {prog : Program} {w : World} {A : Around} {E : Value → Shared → Prop} {s : Shared} {K : Frag}
end
end Att
namespace L2
open PySem PySem.Spec PyProof.Rows
theorem zen : ∀ {vs : List Value} {ns : List Int}, IntsAre vs ns → Vals (ns.map V.int) vs
 | _, _, .nil => .nil
 | _, _, .cons n t h => .cons ⟨t, rfl⟩ (zen h)
def Only (H : Hp) : Prop := ∀ b, H b = none ∨ ∃ o xs, H b = some (.frz o (.lst xs))
theorem zin {P : Program} {w : World} {K : PySem.W.Frag} {mg mb : Str → Option Value} {CX : CXT} {k : Nat} {fa a : Addr} {fd : FuncData} {x : Str} {sp : Sp} {s₁ : Shared} {vs : List Value} {ns : List Int}
 (KX : K.In s₁.heap) (hns : s₁.heap.Ns mainGlobals mg) (hb : s₁.heap.Ns builtinsNs mb) (hbb : ∀ x : Str, x ≠ "__name__" → mb x = bootBuiltins x) (hlim : s₁.heap.NoLimit) (hg : s₁.gens = #[])
 (ha : s₁.heap.get? a = some { cls := .type "list", data := .seq vs.toArray }) (hi : IntsAre vs ns) (hl : ns.length ≤ sizeLine) (hr : Room k callerA)
 (F : ∀ base : Heap, K.In base → base.Ns mainGlobals mg → FnOk P w K mg base CX k fa fd [x] sp) (hbind : ∀ (s : Shared) (u : Value), BindsTo s fd ⟨[u], []⟩ [(x, u)])
 (hsp : ∀ H : Hp, Only H → SqL K H a (ns.map V.int) → sp [.ref a] H (fun v _ => v = .bl true) fun _ _ _ => False)
 (hCX : ∀ H e s', CX [] H s₁ (fun _ _ _ => False) e s' → False) :
 codeAny (model P w) callerA (.call (.ref fa) ⟨[.ref a], []⟩) (fun r s' => r = .ok (.ret (.bool true)) ∧ OldK s₁.heap s'.heap ∧ s'.os = s₁.os ∧ AllBare s'.gens) s₁ := by
 have rv := zen hi
 have lenV := hi.length
 have core : ∀ H : Hp, Only H → SqL K H a (ns.map V.int) → HOk P w H s₁.heap → (∀ b, H b ≠ none → b = a) → (H a ≠ none → K.lookup a = none) →
  codeAny (model P w) callerA (.call (.ref fa) ⟨[.ref a], []⟩) (fun r s' => r = .ok (.ret (.bool true)) ∧ OldK s₁.heap s'.heap ∧ s'.os = s₁.os ∧ AllBare s'.gens) s₁ := by
  intro H hO hS hok hA hK
  have base_of : ∀ {b : Addr} {o : Obj}, s₁.heap.get? b = some o → H b = none → (hidT s₁.heap H).get? b = some o := fun e n => zio e n
  have noA : ∀ {b : Addr} {o : Obj} {es : Array DictEntry} {ep : Nat}, s₁.heap.get? b = some o → o.data = .dict es ep → H b = none := fun {b o es ep} e d => by
   cases q : H b with
   | none => rfl
   | some u =>
    have e' : b = a := hA b (by rw [q]; simp)
    subst e'
    rw [ha] at e; cases e
    have d' : Data.seq vs.toArray _ = Data.dict es ep := d
    cases d'
  have nsK : ∀ {b : Addr} {m : Str → Option Value}, s₁.heap.Ns b m → (hidT s₁.heap H).Ns b m := fun {b m} ⟨o, es, ep, e, d, r⟩ => ⟨o, es, ep, base_of e (noA e d), d, r⟩
  have hKb : K.In (hidT s₁.heap H) := fun b o e => base_of (KX b o e) (by
   cases q : H b with
   | none => rfl
   | some u =>
    have e' : b = a := hA b (by rw [q]; simp)
    subst e'
    rw [hK (by rw [q]; simp)] at e; cases e)
  have hM : Mod K mg (hidT s₁.heap H) := ⟨hKb, nsK hns, ⟨mb, nsK hb, hbb⟩, let ⟨mc, h1, h2⟩ := hlim; ⟨mc, nsK h1, h2⟩⟩
  have e0 : Env0 P w K mg (hidT s₁.heap H) callerA [] s₁ H := ⟨rfl, hM, fun b o e => zjd e, Nat.le_of_eq (zhJ _ _), trivial, fun b hb => absurd (show b ∈ ([] : List Addr) from hb) (by simp), hok, .of_eq hg⟩
  refine codeAny_mono ((F _ hKb (nsK hns)).run callerA [] s₁ H ⟨[.ref a], []⟩ [.ref a] [.ref a] _ _ hr e0 (hbind s₁ (.ref a)) (.cons rfl .nil) (hsp H hO hS)) fun r s' h => ?_
  cases r with
  | error e => exact (hCX H e s' h).elim
  | ok fl =>
   cases fl with
   | next => exact False.elim h
   | brk => exact False.elim h
   | cont => exact False.elim h
   | ret u =>
    obtain ⟨v, H', os, bare, un, hok', r', q⟩ := h
    have q' : v = .bl true := q
    subst q'
    obtain rfl : u = Value.bool true := r'
    refine ⟨rfl, OldK.of_keep fun b o e => ?_, os, bare⟩
    cases q : H b with
    | none => exact un.keep b o e q (by intro z; exact absurd (show b ∈ ([] : List Addr) from z) (by simp)) (by simp)
    | some u =>
     rcases hO b with z | ⟨ob, xs, z⟩
     · rw [q] at z; cases z
     · have z2 := un.frzs b ob _ z
       obtain ⟨e1, _⟩ := hok b _ z
       obtain ⟨e2, _⟩ := hok' b _ z2
       rw [e] at e1; cases e1
       exact e2
 cases hk : K.lookup a with
 | some o =>
  have e := KX a o hk
  rw [ha] at e
  cases e
  refine core (fun _ => none) (fun _ => .inl rfl) (.inr ⟨_, vs.toArray, _, hk, rfl, rfl, rfl, by rw [List.size_toArray, lenV]; exact hl, by simpa using rv⟩) (fun b u z => by have z' : (none : Option HO) = some u := z; cases z') (fun b z => absurd rfl z) fun z => absurd rfl z
 | none =>
  refine core (fun b => if b = a then some (.frz { cls := .type "list", data := .seq vs.toArray } (.lst (ns.map V.int))) else none) (fun b => ?_) (.inl (.inr ⟨{ cls := .type "list", data := .seq vs.toArray }, if_pos rfl⟩)) (fun b u z => ?_) (fun b z => ?_) fun _ => hk
  · by_cases hb : b = a
    · exact .inr ⟨_, _, if_pos hb⟩
    · exact .inl (if_neg hb)
  · by_cases hb : b = a
    · have z' := (if_pos hb).symm.trans z
      cases z'
      subst hb
      exact ⟨ha, by rw [List.length_map]; exact hl, vs, _, rv, ha⟩
    · have z' := (if_neg hb).symm.trans z
      cases z'
  · by_cases hb : b = a
    · exact hb
    · exact absurd (if_neg hb) z
abbrev KOf {K : PySem.W.Frag} {h : Heap} (_ : K.In h) : PySem.W.Frag := K
theorem walk_of {l : PySem.W.OpenLaw} {n k : Nat} {q : Program} {loose : List Str} {XP : (Str → Option Value) → Heap → Prop} {YP : World → Heap → Prop} {d : DefRec} {K : Params → PySem.W.Frag} {CX : World → CXT} {sp : World → Sp} {x : Str}
 (hn : l.most = some n) (hn2 : n ≤ sizeLine) (hdf : d.params.defaults = []) (hr : Room k callerA)
 (hY : ∀ (w : World) (h : Heap), YP w h → (K w.params).In h)
 (F : ∀ (w : World) (mg : Str → Option Value) (fa : Addr) (h : Heap), (K w.params).In h → h.Ns mainGlobals mg → mg d.name = some (.ref fa) →
  ∃ fd : FuncData, (∀ (s : Shared) (u : Value), BindsTo s fd ⟨[u], []⟩ [(x, u)]) ∧
   ∀ base : Heap, (K w.params).In base → base.Ns mainGlobals mg → FnOk l.prog w (K w.params) mg base (CX w) k fa fd [x] (sp w))
 (hsp : ∀ (w : World) (H : Hp) (a : Addr) (ns : List Int), ns.length ≤ n → Only H → SqL (K w.params) H a (ns.map V.int) → sp w [.ref a] H (fun v _ => v = .bl true) fun _ _ _ => False)
 (hCX : ∀ (w : World) (H : Hp) (s : Shared) (e : Value) (s' : Shared), CX w [] H s (fun _ _ _ => False) e s' → False) :
 PySem.W.WalkO q loose XP YP l.row.toRowW d [] (fun f vs => PySem.call f vs) := by
 refine Att.attach_call hn hdf fun w s₀ s₁ mg mb fa o pm cd doc a vs ns G Y ho hd hcd hmg hobj hints hlen hg => ?_
 have KX := hY w _ Y
 obtain ⟨fd, hb, hF⟩ := F w mg fa _ KX G.T.g hmg
 exact zin KX G.T.g G.T.b G.T.builtins G.T.nolimit hg hobj hints (Nat.le_trans hlen hn2) hr hF hb (fun H hO hS => hsp w H a ns hlen hO hS) fun H e s' => hCX w H s₁ e s'
def zb3 (s : Stmt) : Arguments := match s with
 | .FunctionDef _ a _ _ _ _ _ _ _ _ => a
 | _ => { posonlyargs := [], args := [], vararg := none, kwonlyargs := [], kw_defaults := [], kwarg := none, defaults := [] }
def zbQ (s : Stmt) : List Stmt := match s with
 | .FunctionDef _ _ b _ _ _ _ _ _ _ => b
 | _ => []
def zah (s : Stmt) : Scope := match s with
 | .FunctionDef _ _ _ _ _ _ sc _ _ _ => sc
 | _ => { kind := .function, names := [], isGenerator := false, isCoroutine := false }
abbrev CX0 : CXT := fun _ _ _ _ _ _ => False
abbrev E0 : XK := fun _ _ _ => False
theorem zjJ {X : Cx} : zhX CX0 X E0 := fun _ _ _ _ _ _ _ h => h.elim
structure Fun (K : PySem.W.Frag) (x qual : Str) (st : Stmt) (f : Addr) (fd : FuncData) : Prop where
 ex : ∃ (oc : Value) (od : Option Addr) (kV doc pm : Value) (an : Option Addr) (cdv ct : Value) (osl : Array (Option Value)),
  fd = PySem.W.fnOf x qual (zb3 st) (zbQ st) (zah st) .none kV doc pm an cdv ct ∧ K.lookup f = some ⟨oc, od, .func fd, osl⟩ ∧ PySem.W.codeIn K cdv qual = true
 kp : PySem.W.keepIn K (.ref f) = true
section
variable {P : Program} {w : World} {K : PySem.W.Frag} {mg : Str → Option Value} {base : Heap}
theorem Fun.ok {x qual : Str} {st : Stmt} {f : Addr} {fd : FuncData} {N ps : List Str} {k : Nat} {sp : Sp} (F : Fun K x qual st f fd) (S : FnScope N ps (zah st)) (len : ∀ vs H Q E, sp vs H Q E → vs.length = ps.length)
 (hbody : ∀ (cdv : Value) (A : Around) (outer : List Env) (s : Shared) (H : Hp) (vs : List V) (Q : VK) (E : XK), Room k (A.deeper (envOfC qual (zah st) s.heap.objs.size f cdv)) → sp vs H Q E →
  ∃ t, PSs (cxOf CX0 P w K mg base N qual (zah st) f cdv A outer s H E).nox (zbQ st) t ∧ t { nx := fun _ H' => Q .non H', rt := Q } (zer N vs) H) : FnOk P w K mg base CX0 (k + 1) f fd ps sp := by
 obtain ⟨oc, od, kV, doc, pm, an, cdv, ct, osl, rfl, lk, hcd⟩ := F.ex
 refine zkn lk hcd S len fun A outer s H vs Q E hr hsp => ?_
 obtain ⟨t, h, q⟩ := hbody cdv A outer s H vs Q E hr hsp
 exact ⟨t, h.nox, q⟩
theorem Fun.binds {x qual : Str} {st : Stmt} {f : Addr} {fd : FuncData} {ps : List Str} (F : Fun K x qual st f fd)
 (h : ∀ (kV doc pm : Value) (an : Option Addr) (cdv ct : Value) (us : List Value), us.length = ps.length → bindArgs (PySem.W.fnOf x qual (zb3 st) (zbQ st) (zah st) .none kV doc pm an cdv ct) ⟨us, []⟩ = pure (ps.zip us)) : Binds K fd ps [] := by
 obtain ⟨oc, od, kV, doc, pm, an, cdv, ct, osl, rfl, lk, hcd⟩ := F.ex
 exact .all (h kV doc pm an cdv ct)
theorem zaG {x qual : Str} {st : Stmt} {f : Addr} {oc : Value} {od an : Option Addr} {osl : Array (Option Value)} {kV doc pm cdv ct : Value} (l : K.lookup f = some ⟨oc, od, .func (PySem.W.fnOf x qual (zb3 st) (zbQ st) (zah st) .none kV doc pm an cdv ct), osl⟩)
 (c : PySem.W.codeIn K cdv qual = true) (k : PySem.W.keepIn K (.ref f) = true) : Fun K x qual st f (PySem.W.fnOf x qual (zb3 st) (zbQ st) (zah st) .none kV doc pm an cdv ct) := ⟨⟨oc, od, kV, doc, pm, an, cdv, ct, osl, rfl, l, c⟩, k⟩
end
theorem zaA {n : Nat} (h : n ≤ 1000) : n < sizeLine := Nat.lt_of_le_of_lt h (by decide)
section
variable {X : Cx}
theorem pv (i : Nat) {x : Str} {pos : Pos} (hN : X.N[i]? = some x := by rfl) (hv : Vis X.env.scope x := by first | exact Or.inl rfl | exact Or.inr (Or.inl rfl) | exact Or.inr (Or.inr rfl)) (hd : (x == ("__debug__" : Str)) = false := by decide)
 (hcd : (x == ("__classdict__" : Str)) = false := by decide) : PE X (.Name x pos) (tVar i) := zjG hN hv hd hcd
end
theorem iteF {A B : Prop} (h : B) : if false = true then A else B := by
 rw [if_neg Bool.false_ne_true]
 exact h
theorem iteT {A B : Prop} (h : A) : if true = true then A else B := by
 rw [if_pos rfl]
 exact h
theorem ite2 {c A B : Prop} [Decidable c] (h1 : c → A) (h2 : ¬ c → B) : if c then A else B := by
 by_cases h : c
 · rw [if_pos h]
   exact h1 h
 · rw [if_neg h]
   exact h2 h
theorem zjZ {c A B : Prop} [Decidable c] (hc : c) (h : B) : if (!decide c) = true then A else B := by
 rw [decide_eq_true hc]
 exact iteF h
def Same (H H' : Hp) : Prop := ∀ b o, H b = some o → H' b = some o
theorem Same.refl (H : Hp) : Same H H := fun _ _ h => h
theorem Same.trans {H H1 H2 : Hp} (a : Same H H1) (b : Same H1 H2) : Same H H2 := fun c o h => b c o (a c o h)
theorem Same.free {H H' : Hp} (e : Same H H') {l : Addr} (h : H' l = Option.none) : H l = Option.none := by
 cases q : H l with
 | none => rfl
 | some o =>
  rw [e l o q] at h
  cases h
theorem Same.seq {K : PySem.W.Frag} {H H' : Hp} {a : Addr} {xs : List V} (e : Same H H') (h : SqL K H a xs) : SqL K H' a xs := by
 rcases h with (h | ⟨o, h⟩) | h
 · exact .inl (.inl (e _ _ h))
 · exact .inl (.inr ⟨o, e _ _ h⟩)
 · exact .inr h
section
variable {X : Cx}
end
section
variable {κ : Type} [DecidableEq κ]
end
def lcx (X : Cx) (N' : List Str) (scope : Scope) (cl : List (Str × Addr)) (C : Addr) (s₀ : Shared) (H₀ : Hp) (ex : List Addr) : Cx :=
 { prog := X.prog, w := X.w, K := X.K, mg := X.mg, base := X.base, A := X.A, N := N', s₀ := s₀, H₀ := H₀, env := compEnvC scope cl C X.env, outer := X.stack, stack := X.stack, ex := ex, fn := fun _ => false, calm := X.calm, pn := [], xe := fun _ _ => False }
abbrev Cap := List (Option Nat)
def inn (js : Cap) (σ : St) : St := js.map fun o => o.bind fun j => (σ[j]?).join
theorem zjl {env : Env} (has : ∀ x, (env.kindOf x = some .cell ∨ env.kindOf x = some .free) → ∃ c, env.cells.lookup x = some c) :
 ∀ (names : List (Str × NameKind)) (acc : List (Str × Addr)), (∀ p ∈ names, p.2 = .free → env.kindOf p.1 = some .cell ∨ env.kindOf p.1 = some .free) → (∀ x c, acc.lookup x = some c → env.cells.lookup x = some c) →
  ∃ cl, (forIn names acc (fun (p : Str × NameKind) (cs : List (Str × Addr)) => (do
   if p.2 == NameKind.free then
    let c ← cellOf env p.1
    pure (ForInStep.yield ((p.1, c) :: cs))
   else pure (ForInStep.yield cs) : Sem (ForInStep (List (Str × Addr)))))) = pure cl ∧ (∀ x c, cl.lookup x = some c → env.cells.lookup x = some c) ∧
   (∀ x, (acc.lookup x).isSome = true → (cl.lookup x).isSome = true) ∧ ∀ p ∈ names, p.2 = .free → (cl.lookup p.1).isSome = true := by
 intro names
 induction names with
 | nil => intro acc _ ha; exact ⟨acc, rfl, ha, fun _ h => h, fun _ h => nomatch h⟩
 | cons p r ih =>
  intro acc hn ha
  obtain ⟨n, k⟩ := p
  rw [List.forIn_cons]
  by_cases hk : k = .free
  · subst hk
    obtain ⟨c, hc⟩ := has n (hn (n, .free) List.mem_cons_self rfl)
    have e : cellOf env n = (pure c : Sem Addr) := by
     unfold cellOf
     rw [hc]
    obtain ⟨cl, h1, h2, h3, h4⟩ := ih ((n, c) :: acc) (fun q hq => hn q (List.mem_cons_of_mem _ hq)) (fun x c' hx => by
     rw [List.lookup_cons] at hx
     cases hb : x == n with
     | true =>
      rw [hb] at hx
      cases hx
      rw [show x = n from eq_of_beq hb]
      exact hc
     | false =>
      rw [hb] at hx
      exact ha x c' hx)
    refine ⟨cl, ?_, h2, fun x hx => h3 x ?_, fun q hq hf => ?_⟩
    · simp only [beq_self_eq_true, if_true, e]
      exact h1
    · rw [List.lookup_cons]
      cases hb : x == n with
      | true => rfl
      | false => exact hx
    · rcases List.mem_cons.mp hq with rfl | hq
      · exact h3 _ (by simp [List.lookup_cons])
      · exact h4 q hq hf
  · have hb : (k == NameKind.free) = false := by simpa using hk
    obtain ⟨cl, h1, h2, h3, h4⟩ := ih acc (fun q hq => hn q (List.mem_cons_of_mem _ hq)) ha
    refine ⟨cl, ?_, h2, h3, fun q hq hf => ?_⟩
    · simp only [hb, Bool.false_eq_true, if_false]
      exact h1
    · rcases List.mem_cons.mp hq with rfl | hq
      · exact absurd hf hk
      · exact h4 q hq hf
theorem zhU {env : Env} {scope : Scope} (has : ∀ x, (env.kindOf x = some .cell ∨ env.kindOf x = some .free) → ∃ c, env.cells.lookup x = some c)
 (hn : ∀ p ∈ scope.names, p.2 = .free → env.kindOf p.1 = some .cell ∨ env.kindOf p.1 = some .free) :
 ∃ cl, closureFor scope env = pure cl ∧ (∀ x c, cl.lookup x = some c → env.cells.lookup x = some c) ∧ ∀ p ∈ scope.names, p.2 = .free → (cl.lookup p.1).isSome = true := by
 obtain ⟨cl, h1, h2, _, h4⟩ := zjl has scope.names [] hn (fun _ _ h => nomatch h)
 refine ⟨cl, ?_, h2, h4⟩
 unfold closureFor
 show (do let cs ← forIn scope.names [] _; pure cs) = _
 refine Eq.trans ?_ h1
 simp only [bind_pure]
section
variable {prog : Program} {w : World} {A : Around} {E : Value → Shared → Prop} {R : Result → Shared → Prop} {s : Shared}
theorem zfL {elt target iter : Expr} {ifs : List Expr} {scope : Scope} {pos : Pos} {it acc : Value} {env : Env} (I : Nat → Shared → Prop)
 (turn : ∀ n s, I n s → wpAny (model prog w) A (pyNext it) (fun r s₁ => match r with
  | none => R (.ok .next) s₁
  | some v => wpAny (model prog w) A (letOwnedTupleGo target it v) (fun _ s₁' => wpAny (model prog w) A (assign target env v) (fun _ s₂ =>
   wpAny (model prog w) A (forIn ifs true fun c r => if r = true then do let ok ← isTrue c env (eval c env); pure (ForInStep.yield ok) else pure (ForInStep.yield r)) (fun ok s₃ =>
    if ok = true then wpAny (model prog w) A (eval elt env) (fun x s₄ =>
     wpAny (model prog w) A (call (.builtin "list.append") [acc, x]) (fun _ s₅ => ∃ m, m < n ∧ I m s₅) (fun _ _ => False) s₄) (fun _ _ => False) s₃
    else ∃ m, m < n ∧ I m s₃) (fun _ _ => False) s₂) (fun _ _ => False) s₁') (fun _ _ => False) s₁) (fun _ _ => False) s)
 (n : Nat) (h : I n s) :
 codeAny (model prog w) A (.compLoop (.ListComp elt [⟨target, iter, ifs, 0⟩] scope pos) 0 it acc env) R s := by
 refine codeAny_loop rfl I (fun n s hI => ?_) n h
 show wpAny _ A ((compTurn (.ListComp elt [⟨target, iter, ifs, 0⟩] scope pos) 0 it acc env).onRaise (fun x => do noteFrame x env; theTreesLotGoes x)) _ _ s
 refine wpAny_noted ?_
 rw [compTurn_list]
 refine wpAny_bind (wpAny_standAt (wpAny_bind (wpAny_mono (turn n s hI) (fun r s₁ h₁ => ?_) fun _ _ h' => h'.elim)))
 cases r with
 | none => exact wpAny_pure h₁
 | some v =>
  refine wpAny_bind (wpAny_mono h₁ (fun _ s₁' h₁' => ?_) fun _ _ h' => h'.elim)
  refine wpAny_bind (wpAny_mono h₁' (fun _ s₂ h₂ => wpAny_bind (wpAny_mono h₂ (fun ok s₃ h₃ => ?_) fun _ _ h' => h'.elim)) fun _ _ h' => h'.elim)
  cases ok with
  | false => exact wpAny_pure ⟨rfl, h₃⟩
  | true =>
   exact wpAny_bind (wpAny_bind (wpAny_mono h₃ (fun x s₄ h₄ => wpAny_bind (wpAny_mono h₄ (fun _ s₅ h₅ => wpAny_pure (wpAny_pure ⟨rfl, h₅⟩)) fun _ _ h' => h'.elim)) fun _ _ h' => h'.elim))
end
def PIfs (X : Cx) (ifs : List Expr) (t : TT) : Prop :=
 ∀ (pins : List (Addr × Obj)) (s : Shared) (σ : St) (H : Hp) (Q : Bool → Hp → Prop), Inv X pins σ H s → t σ H Q →
  wpAny (model X.prog X.w) X.A (forIn ifs true fun c r => if r = true then do let ok ← isTrue c X.env (eval c X.env); pure (ForInStep.yield ok) else pure (ForInStep.yield r)) (TP X pins σ Q) X.xe s
def tYes : TT := fun _ H Q => Q true H
theorem zbf {X : Cx} : PIfs X [] tYes := fun _ _ _ H _ I h => wpAny_tests_nil ⟨H, I, h⟩
theorem zd5 {X : Cx} {c : Expr} {t : TT} (h : PT X c t) : PIfs X [c] t := fun pins s σ H Q I hw => wpAny_tests_one (h pins s σ H Q I hw)
def zcG (J : It) (p : Addr) (js : Cap) (g : TG) (tc : TT) (te : TE) (σ : St) (H : Hp) (Q : VK) : Prop :=
 ∃ W : Nat → Nat → St → List V → Hp → Prop, (∃ m, W 0 m (inn js σ) [] (upd H p (.lst []))) ∧ ∀ i m σ' ys H, W i m σ' ys H → H p = some (.lst ys) ∧
  ((J.stop i H ∧ Q (.ref p) H) ∨ (J.go i H ∧ ys.length < sizeLine ∧ ∀ x H', J.yld i H x H' → g x σ' H' fun σ2 H2 => tc σ2 H2 fun b H3 =>
    if b = true then te σ2 H3 fun y H4 => H4 p = some (.lst ys) ∧ ∃ m', m' < m ∧ W (i + 1) m' σ2 (ys ++ [y]) (upd H4 p (.lst (ys ++ [y])))
    else ∃ m', m' < m ∧ W (i + 1) m' σ2 ys H3))
def tLC (wi : TI) (js : Cap) (g : TG) (tc : TT) (te : TE) : TE := fun σ H Q => wi σ H fun J H1 => ∀ p, H1 p = none → zcG J p js g tc te σ H1 Q
structure CapOk (X : Cx) (N' : List Str) (js : Cap) (scope : Scope) : Prop where
 len : js.length = N'.length
 kind : scope.kind = .function
 ncell : ∀ p ∈ scope.names, p.2 ≠ .cell
 names : ∀ p ∈ scope.names, p.2 = .local → scope.names.lookup p.1 = some .local
 free : ∀ p ∈ scope.names, p.2 = .free → X.env.kindOf p.1 = some .cell ∨ X.env.kindOf p.1 = some .free
 cap : ∀ (i j : Nat), js[i]? = some (some j) → ∃ x, N'[i]? = some x ∧ X.N[j]? = some x ∧ scope.names.lookup x = some .free
theorem zci {names : List (Str × NameKind)} {x : Str} {k : NameKind} (h : names.lookup x = some k) : (x, k) ∈ names := by
 induction names with
 | nil => cases h
 | cons p r ih =>
  obtain ⟨n, k'⟩ := p
  rw [List.lookup_cons] at h
  cases hb : x == n with
  | true =>
   rw [hb] at h
   cases h
   rw [show x = n from eq_of_beq hb]
   exact List.mem_cons_self
  | false =>
   rw [hb] at h
   exact List.mem_cons_of_mem _ (ih h)
theorem zcV {scope : Scope} {env : Env} {x : Str} {k : NameKind} (h : (relabel scope env).names.lookup x = some k) : ∃ k0, scope.names.lookup x = some k0 ∧ (k = k0 ∨ (k0 = .free ∧ k = .cell)) := by
 have go : ∀ (names : List (Str × NameKind)), (names.map fun (p : Str × NameKind) => if (p.2 == NameKind.free && env.scope.kind == .function && env.kindOf p.1 == some .cell) then (p.1, NameKind.cell) else (p.1, p.2)).lookup x = some k →
  ∃ k0, names.lookup x = some k0 ∧ (k = k0 ∨ (k0 = .free ∧ k = .cell)) := by
  intro names
  induction names with
  | nil => intro h; cases h
  | cons p r ih =>
   obtain ⟨n, k'⟩ := p
   intro h
   rw [List.map_cons] at h
   by_cases hc : (k' == NameKind.free && env.scope.kind == .function && env.kindOf n == some .cell) = true
   · rw [if_pos hc] at h
     rw [List.lookup_cons] at h ⊢
     cases hb : x == n with
     | true =>
      rw [hb] at h
      cases h
      have : k' = .free := by
       cases k' <;> first | rfl | (simp at hc)
      exact ⟨k', rfl, .inr ⟨this, rfl⟩⟩
     | false =>
      rw [hb] at h
      exact ih h
   · rw [if_neg hc] at h
     rw [List.lookup_cons] at h ⊢
     cases hb : x == n with
     | true =>
      rw [hb] at h
      cases h
      exact ⟨k', rfl, .inl rfl⟩
     | false =>
      rw [hb] at h
      exact ih h
 exact go scope.names h
theorem zew {scope : Scope} {env : Env} {x : Str} (h : scope.names.lookup x = some .free) : (relabel scope env).names.lookup x = some .cell ∨ (relabel scope env).names.lookup x = some .free := by
 have go : ∀ (names : List (Str × NameKind)), names.lookup x = some .free → (names.map fun (p : Str × NameKind) => if (p.2 == NameKind.free && env.scope.kind == .function && env.kindOf p.1 == some .cell) then (p.1, NameKind.cell) else (p.1, p.2)).lookup x = some .cell ∨
  (names.map fun (p : Str × NameKind) => if (p.2 == NameKind.free && env.scope.kind == .function && env.kindOf p.1 == some .cell) then (p.1, NameKind.cell) else (p.1, p.2)).lookup x = some .free := by
  intro names
  induction names with
  | nil => intro h; cases h
  | cons p r ih =>
   obtain ⟨n, k'⟩ := p
   intro h
   rw [List.map_cons]
   rw [List.lookup_cons] at h
   by_cases hc : (k' == NameKind.free && env.scope.kind == .function && env.kindOf n == some .cell) = true
   · rw [if_pos hc, List.lookup_cons]
     cases hb : x == n with
     | true => exact .inl rfl
     | false =>
      rw [hb] at h
      exact ih h
   · rw [if_neg hc, List.lookup_cons]
     cases hb : x == n with
     | true =>
      rw [hb] at h
      exact .inr h
     | false =>
      rw [hb] at h
      exact ih h
 exact go scope.names h
section
variable {X : Cx} {pins : List (Addr × Obj)} {σ : St} {H : Hp} {s : Shared}
theorem zhH {N' : List Str} {js : Cap} {scope : Scope} {cl : List (Str × Addr)} {fp : List Addr} {h₁ : Heap} {t' : Nat} (ok : CapOk X N' js scope) (I : Inv X pins σ H s)
 (h2 : ∀ x c, cl.lookup x = some c → X.env.cells.lookup x = some c) (h3 : ∀ p ∈ scope.names, p.2 = .free → (cl.lookup p.1).isSome = true)
 (hf : ∀ b ∈ fp, FpOk X pins H b) (hlt : ∀ b ∈ fp, b < s.heap.objs.size)
 (k : ∀ b u, s.heap.get? b = some u → h₁.get? b = some u) (hn : ∃ m, h₁.Ns s.heap.objs.size m) :
 Inv (lcx X N' scope cl s.heap.objs.size s H fp) [] (inn js σ) H { s with heap := h₁, toks := t' } := by
 have fresh : H s.heap.objs.size = none := I.hok.fresh (Nat.le_refl _)
 have kind_of : ∀ x, ((relabel scope X.env).names.lookup x = some .cell ∨ (relabel scope X.env).names.lookup x = some .free) → scope.names.lookup x = some .free := fun x hx => by
  rcases hx with hx | hx
  · obtain ⟨k0, e, z⟩ := zcV hx
    rcases z with z | ⟨z, _⟩
    · subst z
      exact absurd rfl (ok.ncell _ (zci e))
    · subst z; exact e
  · obtain ⟨k0, e, z⟩ := zcV hx
    rcases z with z | ⟨z, z'⟩
    · subst z; exact e
    · cases z'
 have okc : (lcx X N' scope cl s.heap.objs.size s H fp).Ok := by
  refine ⟨I.ok.mod, ok.kind, I.ok.glob, I.ok.blt, Nat.le_refl _, fun x y c e1 e2 => I.ok.inj x y c (h2 x c e1) (h2 y c e2), fun x hx => ?_, fun x c hx => (nomatch hx), I.ok.hd, I.ok.frames, .inl rfl, fun b hb => ⟨Nat.ne_of_lt (hlt b hb), fun x c e => ?_⟩, I.bs, Nat.le_trans I.ok.bsz I.sz, fun b o e hb => ?_, fun b hb hb' => ?_, I.stack, I.stkFree⟩
  · have e := kind_of x hx
    have z := h3 _ (zci e) rfl
    cases q : cl.lookup x with
    | none => rw [q] at z; cases z
    | some c => exact ⟨c, q⟩
  · exact (hf b hb).2.2.2.2.1 x c (h2 x c e)
  · rcases (hf b hb).2.2.2.1 with z | z
    · exact I.ok.noex b o e z
    · exact absurd (Nat.lt_of_lt_of_le (Heap.lt_size e) (Nat.le_trans I.ok.bsz z)) (Nat.lt_irrefl _)
  · rcases List.mem_cons.mp (I.stkSub b hb') with z | z
    · exact (hf b hb).2.1 z
    · exact (hf b hb).2.2.1 z
 obtain ⟨m, hn⟩ := hn
 refine ⟨okc, rfl, I.bare, Un.kept k, ⟨m, hn, fun i x v e1 e2 e3 => ?_⟩, fun x c e => ?_, fresh, fun x c e => I.freeC x c (h2 x c e), (fun p hp => nomatch hp), I.hok.kept k, by show (inn js σ).length = N'.length; unfold inn; rw [List.length_map]; exact ok.len⟩
 · have e2 : (inn js σ)[i]? = some (some v) := e2
   unfold inn at e2
   rw [List.getElem?_map] at e2
   cases q : js[i]? with
   | none => rw [q] at e2; cases e2
   | some o =>
    rw [q] at e2
    cases o with
    | none => cases e2
    | some j =>
     obtain ⟨x', n1, n2, n3⟩ := ok.cap i j q
     have e1 : N'[i]? = some x := e1
     rw [n1] at e1
     cases e1
     have e2 : (σ[j]?).join = some v := Option.some.inj e2
     have e2' : σ[j]? = some (some v) := by
      cases q2 : σ[j]? with
      | none => rw [q2] at e2; cases e2
      | some o2 => rw [q2] at e2; exact congrArg some e2
     obtain ⟨mo, hno, hlo⟩ := I.loc
     have kx := ok.free _ (zci n3) rfl
     have vis : Vis X.env.scope x := by
      rcases kx with z | z
      · exact .inr (.inl z)
      · exact .inr (.inr z)
     obtain ⟨u, r, l⟩ := hlo j x v n2 e2' vis
     refine ⟨u, r, .inr ⟨zew n3, ?_⟩⟩
     rcases l with ⟨z, _⟩ | ⟨_, c, hc, hcell⟩
     · rcases kx with y | y <;> (rw [z] at y; cases y)
     · have z := h3 _ (zci n3) rfl
       cases q3 : cl.lookup x with
       | none => rw [q3] at z; cases z
       | some c' =>
        have := h2 x c' q3
        rw [hc] at this
        cases this
        exact ⟨c, q3, hcell.keeps k⟩
 · obtain ⟨v, hv⟩ := I.cell x c (h2 x c e)
   exact ⟨v, hv.keeps k⟩
end
section
variable {X : Cx} {tg iter elt : Expr} {ifs : List Expr} {wi : TI} {js : Cap} {g : TG} {tc : TT} {te : TE} {N' : List Str} {scope : Scope} {pos : Pos}
theorem zf5 {pins : List (Addr × Obj)} {σ : St} {H : Hp} {s : Shared} {E : Value → Shared → Prop} {Q : VK} {J : It} {it : Addr} {fp : List Addr} {tn : Nat → Heap → Prop} {cl : List (Str × Addr)}
 (hc : X.calm = true) (ok : CapOk X N' js scope)
 (h2 : ∀ x c, cl.lookup x = some c → X.env.cells.lookup x = some c) (h3 : ∀ p ∈ scope.names, p.2 = .free → (cl.lookup p.1).isSome = true)
 (hg : ∀ cl C s₀ H₀ ex, PG (lcx X N' scope cl C s₀ H₀ ex) tg g) (ht : ∀ cl C s₀ H₀ ex, PIfs (lcx X N' scope cl C s₀ H₀ ex) ifs tc) (he : ∀ cl C s₀ H₀ ex, PE (lcx X N' scope cl C s₀ H₀ ex) elt te)
 (I : Inv X pins σ H s) (T : Turn X.prog X.w X.K tg J fp it tn) (st : tn 0 s.heap) (hf : ∀ b ∈ fp, FpOk X pins H b)
 (hw : ∀ p, H p = none → zcG J p js g tc te σ H Q) :
 wpAny (model X.prog X.w) X.A (newList []) (fun acc s₃ => wpAny (model X.prog X.w) X.A (newFunctionEnv scope X.env.globals cl [] X.env.qual none .none (some X.env)) (fun cenv s₄ =>
  codeAny (model X.prog X.w) X.A (.compStart (.ListComp elt [⟨tg, iter, ifs, 0⟩] scope pos) 0 (.ref it) acc { cenv with scope := relabel scope X.env })
   (fun r s' => r = .ok .next ∧ (∃ m, s'.heap.Ns cenv.locals m) ∧ ∃ v H', RelV v acc ∧ Inv X pins σ H' s' ∧ FpOk X pins H' cenv.locals ∧ Q v H') s₄) E s₃) E s := by
 have objs := T.obj _ _ st
 refine wpAny_newObj_type ?_ (by show 0 ≤ sizeLine; decide)
 obtain ⟨W, ⟨m0, w0⟩, turn⟩ := hw s.heap.objs.size (I.hok.fresh (Nat.le_refl _))
 generalize hp : s.heap.objs.size = p at *
 have kp : ∀ b u, s.heap.get? b = some u → (s.heap.push { cls := .type "list", dict := none, data := .seq ([] : List Value).toArray }).get? b = some u := fun b u e => Heap.get?_push_of_some _ e
 have I3 : Inv X pins σ (upd H p (.lst [])) { s with heap := s.heap.push { cls := .type "list", dict := none, data := .seq ([] : List Value).toArray } } := by
  refine I.laid (t' := s.toks) kp (by rw [hp]; exact Nat.le_refl _) ⟨Nat.zero_le _, [], 0, .nil, ?_⟩
  have := Heap.get?_push_size s.heap (o := { cls := .type "list", dict := none, data := .seq ([] : List Value).toArray }) rfl
  rw [hp] at this
  exact this
 have fne : ∀ b ∈ fp, b ≠ p := fun b hb => by
  obtain ⟨o, e, _⟩ := objs b hb
  have := Heap.lt_size e
  rw [← hp]
  exact Nat.ne_of_lt this
 have hf3 : ∀ b ∈ fp, FpOk X pins (upd H p (.lst [])) b := fun b hb => ⟨by rw [zal (fne b hb)]; exact (hf b hb).1, (hf b hb).2⟩
 have st3 : tn 0 (s.heap.push { cls := .type "list", dict := none, data := .seq ([] : List Value).toArray }) := T.keep _ _ _ st fun b _ o e => kp b o e
 have lt3 : ∀ b ∈ fp, b < (s.heap.push { cls := .type "list", dict := none, data := .seq ([] : List Value).toArray }).objs.size := fun b hb => by
  obtain ⟨o, e, _⟩ := objs b hb
  exact Heap.lt_size (kp b o e)
 generalize hs3 : ({ s with heap := s.heap.push { cls := .type "list", dict := none, data := .seq ([] : List Value).toArray } } : Shared) = s3 at *
 have eh : s.heap.push { cls := .type "list", dict := none, data := .seq ([] : List Value).toArray } = s3.heap := by rw [← hs3]
 rw [eh] at st3 lt3
 refine wpAny_newFunctionEnv ok.ncell (by intro y hy; simp at hy) (fun h₁ hns₁ hsb₁ => ?_) ok.kind
 try dsimp only at hns₁ hsb₁ ⊢
 have k4 : ∀ b u, s3.heap.get? b = some u → h₁.get? b = some u := fun b u e => (hsb₁.2 b (Nat.ne_of_lt (Heap.lt_size e))).trans (Heap.get?_push_of_some _ e)
 have I4 := zhH (cl := cl) (h₁ := h₁) (t' := s3.toks + ([] : List (Str × Value)).length) ok I3 h2 h3 hf3 lt3 k4 ⟨_, hns₁⟩
 have st4 : tn 0 h₁ := T.keep _ _ _ st3 fun b _ o e => k4 b o e
 generalize hX : lcx X N' scope cl s3.heap.objs.size s3 (upd H p (.lst [])) fp = X' at I4
 have hg' : PG X' tg g := by rw [← hX]; exact hg _ _ _ _ _
 have ht' : PIfs X' ifs tc := by rw [← hX]; exact ht _ _ _ _ _
 have he' : PE X' elt te := by rw [← hX]; exact he _ _ _ _ _
 have eP : X'.prog = X.prog := by rw [← hX]; rfl
 have ew : X'.w = X.w := by rw [← hX]; rfl
 have eK : X'.K = X.K := by rw [← hX]; rfl
 have ec : X'.calm = true := by rw [← hX]; exact hc
 have eA : X'.A = X.A := by rw [← hX]; rfl
 have ex : X'.xe = fun _ _ => False := by rw [← hX]; rfl
 have eE : X'.env = compEnvC scope cl s3.heap.objs.size X.env := by rw [← hX]; rfl
 have eEx : X'.ex = fp := by rw [← hX]; rfl
 have eN : X'.pn = [] := by rw [← hX]; rfl
 have stat : ∀ {H' : Hp}, (∀ b ∈ fp, H' b = none) → ∀ b ∈ fp, FpOk X' [] H' b := fun {H'} hn b hb => by
  have okc := I4.ok
  refine ⟨hn b hb, (okc.exf b (by rw [eEx]; exact hb)).1, okc.exfs b (by rw [eEx]; exact hb), .inl (by rw [eEx]; exact hb), (okc.exf b (by rw [eEx]; exact hb)).2, fun q hq => ?_⟩
  rw [eN] at hq
  cases hq
 have loop : ∀ s₄ : Shared, s₄ = { s3 with heap := h₁, toks := s3.toks + ([] : List (Str × Value)).length } →
  codeAny (model X.prog X.w) X.A (.compLoop (.ListComp elt [⟨tg, iter, ifs, 0⟩] scope pos) 0 (.ref it) (.ref p) (compEnvC scope cl s3.heap.objs.size X.env))
   (fun r s' => r = .ok .next ∧ (∃ m, s'.heap.Ns s3.heap.objs.size m) ∧ ∃ v H', RelV v (.ref p) ∧ Inv X pins σ H' s' ∧ FpOk X pins H' s3.heap.objs.size ∧ Q v H') s₄ := by
  rintro s₄ rfl
  refine zfL (fun n s' => ∃ i σ' ys H', Inv X' [] σ' H' s' ∧ tn i s'.heap ∧ (∀ b ∈ fp, H' b = none) ∧ W i n σ' ys H') ?_ m0 ⟨0, _, [], _, I4, st4, fun b hb => (hf3 b hb).1, w0⟩
  rintro n s5 ⟨i, σ5, ys, H5, I5, st5, fr5, w5⟩
  obtain ⟨hp5, tu⟩ := turn i n σ5 ys H5 w5
  rcases tu with ⟨stop, qn⟩ | ⟨go, hz, step⟩
  · have D := T.done X' eP ew eK ec i [] s5 σ5 H5 (fun _ _ => False) I5 (stat fr5) st5 stop
    rw [eA] at D
    refine thn D fun r s6 ⟨hr, I6⟩ => ?_
    subst hr
    refine ⟨rfl, ?_, .ref p, H5, rfl, ?_, ?_, qn⟩
    · obtain ⟨m, hm, _⟩ := I6.loc
      rw [eE] at hm
      exact ⟨m, hm⟩
    · have b6 := I6.base
      have ho := I6.os
      have hk := I6.hok
      have hb := I6.bare
      subst hX
      exact I3.call' (ch := fp) ho b6 hk hb fun b hb' => ⟨(hf b hb').2.2.2.1, (hf b hb').2.1, (hf b hb').2.2.2.2.1, (hf b hb').2.2.2.2.2⟩
    · have fr := I6.free
      rw [eE] at fr
      exact I3.fpOk (Nat.le_refl _) fr
  · have D := T.item X' eP ew eK ec i [] s5 σ5 H5 (fun _ _ => False) I5 (stat fr5) st5 go
    rw [eA] at D
    refine thn D fun r s6 ⟨u, hr, h6⟩ => ?_
    subst hr
    refine thn h6 fun _ s7 ⟨x, H7, I7, r7, y7, st7, fr7⟩ => ?_
    have I7' := I7.pinned (stat fr7) (T.obj _ _ st7)
    have G := hg' _ s7 σ5 H7 x u _ I7' r7 (step x H7 y7)
    rw [eP, ew, eA, ex, eE] at G
    refine thn G fun _ s8 ⟨σ8, H8, I8, q8⟩ => ?_
    have Tt := ht' _ s8 σ8 H8 _ I8 q8
    rw [eP, ew, eA, ex, eE] at Tt
    refine thn Tt fun b s9 ⟨H9, I9, q9⟩ => ?_
    have again : ∀ {s' : Shared} {ys' : List V} {H' : Hp}, Inv X' ([] ++ zex fp s7.heap) σ8 H' s' → (∃ m', m' < n ∧ W (i + 1) m' σ8 ys' H') →
     ∃ m, m < n ∧ ∃ i σ' ys H', Inv X' [] σ' H' s' ∧ tn i s'.heap ∧ (∀ b ∈ fp, H' b = none) ∧ W i m σ' ys H' := fun {s' ys' H'} I' ⟨m', hm, w'⟩ => by
     refine ⟨m', hm, i + 1, σ8, ys', H', I'.unpinned, T.keep _ _ _ st7 fun b hb o e => (I'.pin (b, o) (List.mem_append_right _ (List.mem_append_right _ (zch hb e)))).1, fun b hb => ?_, w'⟩
     obtain ⟨o, e, d⟩ := T.obj _ _ st7 b hb
     exact (I'.pin (b, o) (List.mem_append_right _ (List.mem_append_right _ (zch hb e)))).2.1
    cases b with
    | false => exact again I9 q9
    | true =>
     have Ee := he' _ s9 σ8 H9 _ I9 q9
     rw [eP, ew, eA, ex, eE] at Ee
     show wpAny _ _ _ _ _ _
     refine thn Ee fun xv s10 ⟨y, H10, I10, r10, hp10, q10⟩ => ?_
     have Ap := zbD (X := X') _ s10 σ8 H10 (.ref p) [y] (.ref p) [xv] (fun _ H' => H' = upd H10 p (.lst (ys ++ [y]))) I10 rfl (.cons r10 .nil) ⟨p, ys, y, rfl, rfl, hp10, hz, rfl⟩
     rw [eP, ew, eA, ex] at Ap
     refine thn Ap fun _ s11 ⟨_, H11, I11, _, e11⟩ => ?_
     subst e11
     exact again I11 q10
 exact codeAny_compStart_list (loop _ rfl) (T.self _ 0 _ _ _ st4 (loop _ rfl))
theorem zdy (hc : X.calm = true) (ok : CapOk X N' js scope) (hi : PI X tg iter wi)
 (hg : ∀ cl C s₀ H₀ ex, PG (lcx X N' scope cl C s₀ H₀ ex) tg g) (ht : ∀ cl C s₀ H₀ ex, PIfs (lcx X N' scope cl C s₀ H₀ ex) ifs tc) (he : ∀ cl C s₀ H₀ ex, PE (lcx X N' scope cl C s₀ H₀ ex) elt te)
 (hs : ∀ x, foldedSetIterable iter X.env x = pure x := by intro _; rfl) : PE X (.ListComp elt [⟨tg, iter, ifs, 0⟩] scope pos) (tLC wi js g tc te) := by
 intro pins s σ H Q I h
 obtain ⟨cl, c1, c2, c3⟩ := zhU (scope := scope) I.ok.has ok.free
 rw [eval_ListComp]
 refine wpAny_comprehension_free (use := none) rfl hs c1 ok.kind ok.names (thn (hi pins s σ H _ I h) fun v s1 h1 => thn h1 fun itv s2 h2 => ?_)
 obtain ⟨it, fp, tn, J, H2, e, I2, T, st2, f2, hw⟩ := h2
 subst e
 refine wpAny_mono (zf5 (iter := iter) (pos := pos) hc ok c2 c3 hg ht he I2 T st2 f2 hw) (fun acc s3 h3 => wpAny_mono h3 (fun cenv s4 h4 => ?_) fun _ _ z => z) fun _ _ z => z
 refine codeAny_mono h4 fun r s5 h5 => ?_
 obtain ⟨rfl, ⟨m, hm⟩, v, H5, rv, I5, f5, q5⟩ := h5
 refine ⟨m, hm, fun h' sb => ?_⟩
 obtain ⟨f0, f1, _, f3, f4, f6⟩ := f5
 exact ⟨v, H5, I5.turned (t' := s5.toks) (fun b o hb e => (sb.2 b hb).trans e) f0 f1 f3 f4 f6, rv, q5⟩
theorem zfX {i : Nat} {x : Str} {px : Pos} {spos : Pos} (hN : X.N.Nodup) (hi' : X.N[i]? = some x) (hx : Loc X.env.scope x) (hc : X.calm = true) (ok : CapOk X N' js scope) (hi : PI X tg iter wi)
 (hg : ∀ cl C s₀ H₀ ex, PG (lcx X N' scope cl C s₀ H₀ ex) tg g) (ht : ∀ cl C s₀ H₀ ex, PIfs (lcx X N' scope cl C s₀ H₀ ex) ifs tc) (he : ∀ cl C s₀ H₀ ex, PE (lcx X N' scope cl C s₀ H₀ ex) elt te)
 (hsw : swapsWith (.ListComp elt [⟨tg, iter, ifs, 0⟩] scope pos) (some (.Name x px)) spos.line X.env = pure true := by rfl)
 (hs : ∀ x, foldedSetIterable iter X.env x = pure x := by intro _; rfl) (hf : X.fn x = true ∨ X.env.scope.names.lookup x = some .local := by first | exact .inl rfl | exact .inr rfl | assumption) :
 PS X (.Assign [.Name x px] (.ListComp elt [⟨tg, iter, ifs, 0⟩] scope pos) spos) (tAsg (tLC wi js g tc te) (zgE i)) := by
 intro pins s σ H D I h
 obtain ⟨cl, c1, c2, c3⟩ := zhU (scope := scope) I.ok.has ok.free
 rw [exec_Assign_Name_used _ _ _ _ hsw]
 refine wpAny_bind (wpAny_standAt (wpAny_bind ?_))
 show wpAny _ X.A (do let _ ← comprehension (.ListComp elt [⟨tg, iter, ifs, 0⟩] scope pos) scope X.env _ (newList []) false (eval iter X.env) (some (assign (.Name x px) X.env))) _ _ s
 refine wpAny_bind (wpAny_mono (wpAny_comprehension_free (use := some (assign (.Name x px) X.env)) (Q := fun _ s' => SP X pins D .next s') rfl hs c1 ok.kind ok.names
  (thn (hi pins s σ H _ I h) fun v s1 h1 => thn h1 fun itv s2 h2 => ?_)) (fun _ s' hq => wpAny_pure (wpAny_pure hq)) fun _ _ e => e)
 obtain ⟨it, fp, tn, J, H2, e, I2, T, st2, f2, hw⟩ := h2
 subst e
 refine wpAny_mono (zf5 (Q := fun x H1 => zgE i x σ H1 D.nx) (iter := iter) (pos := pos) hc ok c2 c3 hg ht he I2 T st2 f2 hw) (fun acc s3 h3 => wpAny_mono h3 (fun cenv s4 h4 => ?_) fun _ _ z => z) fun _ _ z => z
 refine codeAny_mono h4 fun r s5 h5 => ?_
 obtain ⟨rfl, ⟨m, hm⟩, v, H5, rv, I5, f5, q5⟩ := h5
 obtain ⟨f0, f1, f2', f3, f4, f6⟩ := f5
 show wpAny _ X.A (assign (.Name x px) X.env acc) _ _ _
 refine wpAny_assign_Name (zeq I5 hN hi' hx rv (fun s6 I6 ch => ?_) hf)
 obtain ⟨a, sb, ha⟩ := ch
 have na : cenv.locals ≠ a := by
  rcases ha with z | z
  · rw [z]; exact f1
  · exact fun y => f4 x a z y.symm
 refine ⟨m, hm.sameBut sb na, fun h' sb' => ⟨_, H5, I6.turned (t' := s6.toks) (fun b o hb e => (sb'.2 b hb).trans e) f0 f1 f3 f4 f6, q5⟩⟩
end
end L2
set_option exponentiation.threshold 2000
namespace L2
open PySem PySem.Spec PyProof.Rows
def zj7 (i j : Int) : Prop := 0 ≤ j ∧ j ≤ 1000 ∧ i.natAbs < 2 ^ 1000
def zku (i j : Int) : Prop := 0 < j ∧ j < 2 ^ 1000
section
variable {X : Cx}
theorem zbu : OpR X (binaryOp .Pow) (rI zj7 fun i j => .int (i ^ j.toNat)) := opI fun i j _ _ _ _ _ hc q => by
 obtain ⟨h0, h1, h2⟩ := hc
 refine pow_int h0 ?_ q
 have hb : Builtin.Int.intBits i ≤ 1000 := intBits_le h2
 have e1 : ((Builtin.Int.intBits i : Nat) : Int) * j ≤ 1000 * 1000 := by
  have a1 : ((Builtin.Int.intBits i : Nat) : Int) * j ≤ 1000 * j := Int.mul_le_mul_of_nonneg_right (by omega) h0
  have a2 : 1000 * j ≤ 1000 * 1000 := Int.mul_le_mul_of_nonneg_left h1 (by decide)
  exact Int.le_trans a1 a2
 exact Int.le_trans e1 (by decide)
theorem zfY : OpR X (binaryOp .FloorDiv) (rI zku fun i j => .int (i / j)) := opI fun i j _ _ _ _ _ hc q => by
 obtain ⟨h0, h1⟩ := hc
 refine floordiv_int (by omega) ?_ (.inl (PyProof.noPylong_of_log2 ?_))
 · rw [Int.fdiv_eq_ediv_of_nonneg _ (by omega)]
   exact q
 · have h2 : j.natAbs < 2 ^ 1000 := by
    have e : ((j.natAbs : Nat) : Int) = j := by omega
    have h3 : ((j.natAbs : Nat) : Int) < ((2 ^ 1000 : Nat) : Int) := by
     rw [e, Int.natCast_pow]
     exact h1
    exact Int.ofNat_lt.mp h3
   have h4 : j.natAbs ≠ 0 := by omega
   have h5 := (Nat.log2_lt h4).mpr h2
   omega
end
inductive PD where
 | non | bl (b : Bool) | int (i : Int) | str (x : Str) | lst (ds : List PD) | tup (ds : List PD)
mutual
def Rep (K : PySem.W.Frag) (H : Hp) : PD → V → Prop
 | .non, v => v = .non
 | .bl b, v => v = .bl b
 | .int i, v => v = .int i
 | .str x, v => v = .str x
 | .lst ds, v => ∃ a xs, v = .ref a ∧ SqL K H a xs ∧ Reps K H ds xs
 | .tup ds, v => ∃ a xs, v = .ref a ∧ SqT K H a xs ∧ Reps K H ds xs
def Reps (K : PySem.W.Frag) (H : Hp) : List PD → List V → Prop
 | [], xs => xs = []
 | d :: ds, xs => ∃ x r, xs = x :: r ∧ Rep K H d x ∧ Reps K H ds r
end
mutual
def pyEq : PD → PD → Bool
 | .non, .non => true
 | .bl a, .bl b => a == b
 | .bl a, .int b => (if a then 1 else 0) == b
 | .int a, .bl b => a == (if b then 1 else 0)
 | .int a, .int b => a == b
 | .str a, .str b => a == b
 | .lst xs, .lst ys => zbk xs ys
 | .tup xs, .tup ys => zbk xs ys
 | _, _ => false
def zbk : List PD → List PD → Bool
 | [], [] => true
 | x :: xs, y :: ys => pyEq x y && zbk xs ys
 | _, _ => false
end
mutual
def zay : PD → Nat
 | .lst ds => zav ds + 1
 | .tup ds => zav ds + 1
 | _ => 0
def zav : List PD → Nat
 | [] => 0
 | d :: ds => max (zay d) (zav ds)
end
mutual
theorem zaX : ∀ d : PD, pyEq d d = true
 | .non => rfl
 | .bl b => by simp [pyEq]
 | .int i => by simp [pyEq]
 | .str x => by simp [pyEq]
 | .lst ds => by rw [pyEq]; exact zbi ds
 | .tup ds => by rw [pyEq]; exact zbi ds
theorem zbi : ∀ ds : List PD, zbk ds ds = true
 | [] => by rw [zbk]
 | d :: ds => by rw [zbk, zaX d, zbi ds]; rfl
end
theorem Reps.length {K : PySem.W.Frag} {H : Hp} : ∀ {ds : List PD} {xs : List V}, Reps K H ds xs → xs.length = ds.length
 | [], xs, h => by rw [Reps] at h; rw [h]; rfl
 | d :: ds, xs, h => by
  rw [Reps] at h
  obtain ⟨x, r, rfl, _, h⟩ := h
  rw [List.length_cons, List.length_cons, Reps.length h]
theorem zaU : ∀ {xs ys : List PD}, xs.length ≠ ys.length → zbk xs ys = false
 | [], [], h => absurd rfl h
 | [], _ :: _, _ => by rw [zbk]; all_goals simp
 | _ :: _, [], _ => by rw [zbk]; all_goals simp
 | x :: xs, y :: ys, h => by
  rw [zbk, zaU (xs := xs) (ys := ys) (by simpa using h)]
  simp
def eqJ (xs ys : List PD) (j : Nat) : Bool := match xs[j]?, ys[j]? with
 | some a, some b => pyEq a b
 | _, _ => false
theorem zaW : ∀ (xs ys : List PD), xs.length = ys.length → (List.range xs.length).all (eqJ xs ys) = zbk xs ys
 | [], [], _ => by rw [zbk]; rfl
 | x :: xs, y :: ys, h => by
  rw [zbk, List.length_cons, List.range_succ_eq_map, List.all_cons, List.all_map]
  rw [← zaW xs ys (by simpa using h)]
  rfl
theorem SqT.notL {K : PySem.W.Frag} {X : Cx} {pins : List (Addr × Obj)} {σ : St} {H : Hp} {s : Shared} {a : Addr} {xs ys : List V} (I : Inv X pins σ H s) (h : SqT X.K H a xs) (h' : SqL X.K H a ys) : False := by
 obtain ⟨its, _, p, _⟩ := I.tuple h
 obtain ⟨its', _, p', _⟩ := I.list h'
 exact SeqAt.ne_of_list_tuple p'.isList (show s.heap.IsTuple a its.toArray from p) rfl
section
variable {X : Cx} {pins : List (Addr × Obj)} {σ : St} {H : Hp} {s : Shared}
mutual
theorem zd2 (I : Inv X pins σ H s) : ∀ (d e : PD) (v : V), Rep X.K H d v → Rep X.K H e v → d = e
 | .non, e, v, h, h' => by
  rw [Rep] at h; subst h
  cases e <;> rw [Rep] at h' <;> first | rfl | (obtain ⟨_, _, z, _⟩ := h'; cases z; done) | (cases h'; done)
 | .bl b, e, v, h, h' => by
  rw [Rep] at h; subst h
  cases e <;> rw [Rep] at h' <;> first | (obtain ⟨_, _, z, _⟩ := h'; cases z; done) | (cases h'; done) | (cases h'; rfl)
 | .int i, e, v, h, h' => by
  rw [Rep] at h; subst h
  cases e <;> rw [Rep] at h' <;> first | (obtain ⟨_, _, z, _⟩ := h'; cases z; done) | (cases h'; done) | (cases h'; rfl)
 | .str x, e, v, h, h' => by
  rw [Rep] at h; subst h
  cases e <;> rw [Rep] at h' <;> first | (obtain ⟨_, _, z, _⟩ := h'; cases z; done) | (cases h'; done) | (cases h'; rfl)
 | .lst ds, e, v, h, h' => by
  rw [Rep] at h
  obtain ⟨a, xs, rfl, q, r⟩ := h
  cases e with
  | lst es =>
   rw [Rep] at h'
   obtain ⟨a', ys, z, q', r'⟩ := h'
   cases z
   have := I.list_inj q q'
   subst this
   rw [zd0 I ds es xs r r']
  | tup es =>
   rw [Rep] at h'
   obtain ⟨a', ys, z, q', r'⟩ := h'
   cases z
   exact (SqT.notL (K := X.K) I q' q).elim
  | _ => rw [Rep] at h'; cases h'
 | .tup ds, e, v, h, h' => by
  rw [Rep] at h
  obtain ⟨a, xs, rfl, q, r⟩ := h
  cases e with
  | tup es =>
   rw [Rep] at h'
   obtain ⟨a', ys, z, q', r'⟩ := h'
   cases z
   have := I.tuple_inj q q'
   subst this
   rw [zd0 I ds es xs r r']
  | lst es =>
   rw [Rep] at h'
   obtain ⟨a', ys, z, q', r'⟩ := h'
   cases z
   exact (SqT.notL (K := X.K) I q q').elim
  | _ => rw [Rep] at h'; cases h'
theorem zd0 (I : Inv X pins σ H s) : ∀ (ds es : List PD) (vs : List V), Reps X.K H ds vs → Reps X.K H es vs → ds = es
 | [], es, vs, h, h' => by
  rw [Reps] at h; subst h
  cases es with
  | nil => rfl
  | cons e es => rw [Reps] at h'; obtain ⟨_, _, z, _⟩ := h'; cases z
 | d :: ds, es, vs, h, h' => by
  rw [Reps] at h
  obtain ⟨x, r, rfl, h1, h2⟩ := h
  cases es with
  | nil => rw [Reps] at h'; cases h'
  | cons e es =>
   rw [Reps] at h'
   obtain ⟨x', r', z, h1', h2'⟩ := h'
   cases z
   rw [zd2 I d e x h1 h1', zd0 I ds es r h2 h2']
end
mutual
theorem zbO (I : Inv X pins σ H s) : ∀ (A : Around) (d e : PD) (v w : V) (u y : Value), Rep X.K H d v → Rep X.K H e w → RelV v u → RelV w y → A.units + zay d < cLine → SeqAt.EqAt A s u y (pyEq d e)
 | A, .non, e, v, w, u, y, h, h', r, r', z => by
  rw [Rep] at h; subst h; cases r
  cases e with
  | non => rw [Rep] at h'; subst h'; cases r'; rw [pyEq]; exact SeqAt.EqAt.same _
  | bl b => rw [Rep] at h'; subst h'; cases r'; exact SeqAt.EqAt.none_bool b
  | int b => rw [Rep] at h'; subst h'; obtain ⟨t, rfl⟩ := r'; exact SeqAt.EqAt.none_int b t
  | str b => rw [Rep] at h'; subst h'; obtain ⟨t, rfl⟩ := r'; exact SeqAt.EqAt.none_str b t
  | lst es => rw [Rep] at h'; obtain ⟨a, xs, rfl, q, _⟩ := h'; cases r'; obtain ⟨its, _, p, _⟩ := I.list q; exact SeqAt.EqAt.none_list p.isList (by omega)
  | tup es => rw [Rep] at h'; obtain ⟨a, xs, rfl, q, _⟩ := h'; cases r'; obtain ⟨its, _, p, _⟩ := I.tuple q; exact SeqAt.EqAt.none_tuple p (by omega)
 | A, .bl c, e, v, w, u, y, h, h', r, r', z => by
  rw [Rep] at h; subst h; cases r
  cases e with
  | non => rw [Rep] at h'; subst h'; cases r'; exact SeqAt.EqAt.bool_none c
  | bl b => rw [Rep] at h'; subst h'; cases r'; exact SeqAt.EqAt.bool_bool c b
  | int b => rw [Rep] at h'; subst h'; obtain ⟨t, rfl⟩ := r'; exact SeqAt.EqAt.bool_int c b t
  | str b => rw [Rep] at h'; subst h'; obtain ⟨t, rfl⟩ := r'; exact SeqAt.EqAt.bool_str c b t
  | lst es => rw [Rep] at h'; obtain ⟨a, xs, rfl, q, _⟩ := h'; cases r'; obtain ⟨its, _, p, _⟩ := I.list q; exact SeqAt.EqAt.bool_list c p.isList (by omega)
  | tup es => rw [Rep] at h'; obtain ⟨a, xs, rfl, q, _⟩ := h'; cases r'; obtain ⟨its, _, p, _⟩ := I.tuple q; exact SeqAt.EqAt.bool_tuple c p (by omega)
 | A, .int c, e, v, w, u, y, h, h', r, r', z => by
  rw [Rep] at h; subst h; obtain ⟨tc, rfl⟩ := r
  cases e with
  | non => rw [Rep] at h'; subst h'; cases r'; exact SeqAt.EqAt.int_none c tc
  | bl b => rw [Rep] at h'; subst h'; cases r'; exact SeqAt.EqAt.int_bool c tc b
  | int b => rw [Rep] at h'; subst h'; obtain ⟨t, rfl⟩ := r'; exact SeqAt.EqAt.int_int c tc b t
  | str b => rw [Rep] at h'; subst h'; obtain ⟨t, rfl⟩ := r'; exact SeqAt.EqAt.int_str c tc b t
  | lst es => rw [Rep] at h'; obtain ⟨a, xs, rfl, q, _⟩ := h'; cases r'; obtain ⟨its, _, p, _⟩ := I.list q; exact SeqAt.EqAt.int_list c tc p.isList (by omega)
  | tup es => rw [Rep] at h'; obtain ⟨a, xs, rfl, q, _⟩ := h'; cases r'; obtain ⟨its, _, p, _⟩ := I.tuple q; exact SeqAt.EqAt.int_tuple c tc p (by omega)
 | A, .str c, e, v, w, u, y, h, h', r, r', z => by
  rw [Rep] at h; subst h; obtain ⟨tc, rfl⟩ := r
  cases e with
  | non => rw [Rep] at h'; subst h'; cases r'; exact SeqAt.EqAt.str_none c tc
  | bl b => rw [Rep] at h'; subst h'; cases r'; exact SeqAt.EqAt.str_bool c tc b
  | int b => rw [Rep] at h'; subst h'; obtain ⟨t, rfl⟩ := r'; exact SeqAt.EqAt.str_int c tc b t
  | str b => rw [Rep] at h'; subst h'; obtain ⟨t, rfl⟩ := r'; exact SeqAt.EqAt.str_str c tc b t
  | lst es => rw [Rep] at h'; obtain ⟨a, xs, rfl, q, _⟩ := h'; cases r'; obtain ⟨its, _, p, _⟩ := I.list q; exact SeqAt.EqAt.str_list c tc p.isList (by omega)
  | tup es => rw [Rep] at h'; obtain ⟨a, xs, rfl, q, _⟩ := h'; cases r'; obtain ⟨its, _, p, _⟩ := I.tuple q; exact SeqAt.EqAt.str_tuple c tc p (by omega)
 | A, .lst ds, e, v, w, u, y, h, h', r, r', z => by
  have h0 := h
  rw [Rep] at h; obtain ⟨a, xs, rfl, q, qs⟩ := h; cases r
  obtain ⟨its, rv, p, _⟩ := I.list q
  cases e with
  | non => rw [Rep] at h'; subst h'; cases r'; exact SeqAt.EqAt.list_none p.isList (by omega)
  | bl b => rw [Rep] at h'; subst h'; cases r'; exact SeqAt.EqAt.list_bool b p.isList (by omega)
  | int b => rw [Rep] at h'; subst h'; obtain ⟨t, rfl⟩ := r'; exact SeqAt.EqAt.list_int b t p.isList (by omega)
  | str b => rw [Rep] at h'; subst h'; obtain ⟨t, rfl⟩ := r'; exact SeqAt.EqAt.list_str b t p.isList (by omega)
  | tup es => rw [Rep] at h'; obtain ⟨b, ys, rfl, q', _⟩ := h'; cases r'; obtain ⟨its', _, p', _⟩ := I.tuple q'; exact SeqAt.EqAt.list_tuple p.isList p' (by omega)
  | lst es =>
   have h0' := h'
   rw [Rep] at h'; obtain ⟨b, ys, rfl, q', qs'⟩ := h'; cases r'
   obtain ⟨its', rv', p', _⟩ := I.list q'
   by_cases hab : a = b
   · subst hab
     rw [zd2 I _ _ _ h0 h0', zaX]
     exact SeqAt.EqAt.same _
   · refine SeqAt.EqAt.of_refs hab ?_
     rw [pyEq]
     rw [zay] at z
     have l1 := qs.length
     have l2 := qs'.length
     have l3 := rv.length
     have l4 := rv'.length
     by_cases hl : ds.length = es.length
     · rw [← zaW ds es hl]
       have := SeqAt.RcAt.lists (e := eqJ ds es) p.isList p'.isList (by simp; omega) (by omega) (fun j h1 h2 => ?_) (A := A)
       · simp only [List.size_toArray] at this
         rw [show ds.length = its.length by omega]
         exact this
       · have := zbm I A.in1 ds es xs ys its its' qs qs' rv rv' (by rw [Around.in1_units]; omega) j (by simpa using h1) (by simpa using h2)
         simpa using this
     · rw [zaU hl]
       exact SeqAt.RcAt.lists_lengths p.isList p'.isList (by simp; omega) (by omega)
 | A, .tup ds, e, v, w, u, y, h, h', r, r', z => by
  have h0 := h
  rw [Rep] at h; obtain ⟨a, xs, rfl, q, qs⟩ := h; cases r
  obtain ⟨its, rv, p, _⟩ := I.tuple q
  cases e with
  | non => rw [Rep] at h'; subst h'; cases r'; exact SeqAt.EqAt.tuple_none p (by omega)
  | bl b => rw [Rep] at h'; subst h'; cases r'; exact SeqAt.EqAt.tuple_bool b p (by omega)
  | int b => rw [Rep] at h'; subst h'; obtain ⟨t, rfl⟩ := r'; exact SeqAt.EqAt.tuple_int b t p (by omega)
  | str b => rw [Rep] at h'; subst h'; obtain ⟨t, rfl⟩ := r'; exact SeqAt.EqAt.tuple_str b t p (by omega)
  | lst es => rw [Rep] at h'; obtain ⟨b, ys, rfl, q', _⟩ := h'; cases r'; obtain ⟨its', _, p', _⟩ := I.list q'; exact SeqAt.EqAt.tuple_list p p'.isList (by omega)
  | tup es =>
   have h0' := h'
   rw [Rep] at h'; obtain ⟨b, ys, rfl, q', qs'⟩ := h'; cases r'
   obtain ⟨its', rv', p', _⟩ := I.tuple q'
   by_cases hab : a = b
   · subst hab
     rw [zd2 I _ _ _ h0 h0', zaX]
     exact SeqAt.EqAt.same _
   · refine SeqAt.EqAt.of_refs hab ?_
     rw [pyEq]
     rw [zay] at z
     have l1 := qs.length
     have l2 := qs'.length
     have l3 := rv.length
     have l4 := rv'.length
     have := SeqAt.RcAt.tuples (e := eqJ ds es) p p' (by omega) (fun j h1 h2 => ?_) (A := A)
     · simp only [List.size_toArray] at this
       by_cases hl : ds.length = es.length
       · rw [← zaW ds es hl]
         rw [show min its.length its'.length = ds.length by omega, show (its.length == its'.length) = true by simp; omega, Bool.and_true] at this
         exact this
       · rw [zaU hl]
         rw [show (its.length == its'.length) = false by simp; omega, Bool.and_false] at this
         exact this
     · have := zbm I A.in1 ds es xs ys its its' qs qs' rv rv' (by rw [Around.in1_units]; omega) j (by simpa using h1) (by simpa using h2)
       simpa using this
theorem zbm (I : Inv X pins σ H s) : ∀ (A : Around) (ds es : List PD) (vs ws : List V) (us ys : List Value), Reps X.K H ds vs → Reps X.K H es ws → Vals vs us → Vals ws ys → A.units + zav ds < cLine →
 ∀ (j : Nat) (h1 : j < us.length) (h2 : j < ys.length), SeqAt.EqAt A s us[j] ys[j] (eqJ ds es j)
 | A, [], es, vs, ws, us, ys, h, h', r, r', z => by
  rw [Reps] at h; subst h; cases r
  intro j h1; exact absurd h1 (Nat.not_lt_zero _)
 | A, d :: ds, es, vs, ws, us, ys, h, h', r, r', z => by
  rw [Reps] at h
  obtain ⟨x, vr, rfl, g1, g2⟩ := h
  cases es with
  | nil =>
   rw [Reps] at h'; subst h'; cases r'
   intro j h1 h2; exact absurd h2 (Nat.not_lt_zero _)
  | cons e es =>
   rw [Reps] at h'
   obtain ⟨x', vr', rfl, g1', g2'⟩ := h'
   cases r with
   | cons ra rb =>
    cases r' with
    | cons ra' rb' =>
     rw [zav] at z
     intro j h1 h2
     cases j with
     | zero => exact zbO I A d e x x' _ _ g1 g1' ra ra' (by omega)
     | succ j => exact zbm I A ds es vr vr' _ _ g2 g2' rb rb' (by omega) j (by simpa using h1) (by simpa using h2)
end
end
section
variable {prog : Program} {w : World} {A : Around} {R : Result → Shared → Prop} {J : Addr} {fo wo : List Addr} {len : Nat} {At : Nat → Value → Prop} {Sx : Nat → Heap → Prop}
end
section
variable {prog : Program} {w : World} {A : Around} {R : Result → Shared → Prop} {J : Addr} {fo wo : List Addr} {len : Nat} {At : Nat → Value → Prop} {Sx : Nat → Heap → Prop}
end
section
variable {X : Cx}
def ziW (X : Cx) (f : Value) (ks : List Str) (r : List V → List V → Hp → VK → Prop) : Prop :=
 ∀ (pins : List (Addr × Obj)) (s : Shared) (σ : St) (H : Hp) (xs zs : List V) (us ws : List Value) (Q : VK), Inv X pins σ H s → Vals xs us → Vals zs ws → r xs zs H Q → wpAny (model X.prog X.w) X.A (call f us (ks.zip ws)) (EP X pins σ Q) X.xe s
def tCBK (r : List V → List V → Hp → VK → Prop) (t tk : TA) : TE := fun σ H Q => t σ H fun vs H1 => tk σ H1 fun zs H2 => r vs zs H2 Q
theorem zhe {x : Str} {id : String} {ks : List Str} {r : List V → List V → Hp → VK → Prop} {e : Expr} {es : List Expr} {kws : List Keyword} {t tk : TA} {p pos : Pos} (hc : ziW X (.builtin id) ks r) (hg : Gl X x) (hm : X.mg x = none) (hv : bootBuiltins x = some (.builtin id)) (ha : PA X (e :: es) t) (hkw : PK X kws tk)
 (hks : (backToKw pos (keywordEach kws X.env)).filterMap (·.1) = ks := by rfl) (hn : x ≠ "__name__" := by decide) (hdb : (x == ("__debug__" : Str)) = false := by decide)
 (he : backTo pos (starEach (e :: es) X.env) = (false, eval e X.env) :: backTo pos (starEach es X.env) := by rfl) (hpl : (backTo pos (starEach (e :: es) X.env)).any (·.1) = false := by rfl)
 (hall : (backToKw pos (keywordEach kws X.env)).all (·.1.isSome) = true := by rfl) (hkn : (backToKw pos (keywordEach kws X.env)).any (·.1.isNone) = false := by rfl) :
 PE X (.Call (.Name x p) (e :: es) kws pos) (tCBK r t tk) := by
 intro pins s σ H Q I h
 refine wpAny_Call_Name_kw (zcX I hg hm hv ?_ hn hdb)
 refine callWith_kw (thn (ha pos pins s σ H _ I h) fun us s1 ⟨vs, H1, I1, r1, q1⟩ => ?_) he hpl hall hkn
 refine thn (hkw pos pins s1 σ H1 _ I1 q1) fun ws s2 ⟨zs, H2, I2, r2, q2⟩ => ?_
 rw [hks]
 exact hc pins s2 σ H2 vs zs us ws Q I2 r1 r2 q2
end
section
variable {X : Cx} {pins : List (Addr × Obj)} {σ : St} {H : Hp} {s : Shared}
theorem zcv (I : Inv X pins σ H s) (A : Around) (d e : PD) (v w : V) (u y : Value) (h : Rep X.K H d v) (h' : Rep X.K H e w) (r : RelV v u) (r' : RelV w y) (z : A.units + zay d < cLine) : SeqAt.RcAt A s u y (pyEq d e) := by
 cases d with
 | non =>
  rw [Rep] at h; subst h; cases r
  cases e with
  | non =>
   rw [Rep] at h'
   subst h'; cases r'
   rw [pyEq]; exact SeqAt.RcAt.none_none
  | bl b =>
   rw [Rep] at h'
   subst h'; cases r'
   exact SeqAt.RcAt.none_bool b
  | int b =>
   rw [Rep] at h'
   subst h'; obtain ⟨t, rfl⟩ := r'
   exact SeqAt.RcAt.none_int b t
  | str b =>
   rw [Rep] at h'
   subst h'; obtain ⟨t, rfl⟩ := r'
   exact SeqAt.RcAt.none_str b t
  | lst es =>
   rw [Rep] at h'
   obtain ⟨b, ys, rfl, q', qs'⟩ := h'; cases r'
   obtain ⟨its', rv', p', _⟩ := I.list q'
   exact SeqAt.RcAt.none_list p'.isList (by omega)
  | tup es =>
   rw [Rep] at h'
   obtain ⟨b, ys, rfl, q', qs'⟩ := h'; cases r'
   obtain ⟨its', rv', p', _⟩ := I.tuple q'
   exact SeqAt.RcAt.none_tuple p' (by omega)
 | bl c =>
  rw [Rep] at h; subst h; cases r
  cases e with
  | non =>
   rw [Rep] at h'
   subst h'; cases r'
   exact SeqAt.RcAt.bool_none c
  | bl b =>
   rw [Rep] at h'
   subst h'; cases r'
   exact SeqAt.RcAt.bool_bool c b
  | int b =>
   rw [Rep] at h'
   subst h'; obtain ⟨t, rfl⟩ := r'
   exact SeqAt.RcAt.bool_int c b t
  | str b =>
   rw [Rep] at h'
   subst h'; obtain ⟨t, rfl⟩ := r'
   exact SeqAt.RcAt.bool_str c b t
  | lst es =>
   rw [Rep] at h'
   obtain ⟨b, ys, rfl, q', qs'⟩ := h'; cases r'
   obtain ⟨its', rv', p', _⟩ := I.list q'
   exact SeqAt.RcAt.bool_list c p'.isList (by omega)
  | tup es =>
   rw [Rep] at h'
   obtain ⟨b, ys, rfl, q', qs'⟩ := h'; cases r'
   obtain ⟨its', rv', p', _⟩ := I.tuple q'
   exact SeqAt.RcAt.bool_tuple c p' (by omega)
 | int c =>
  rw [Rep] at h; subst h; obtain ⟨tc, rfl⟩ := r
  cases e with
  | non =>
   rw [Rep] at h'
   subst h'; cases r'
   exact SeqAt.RcAt.int_none c tc
  | bl b =>
   rw [Rep] at h'
   subst h'; cases r'
   exact SeqAt.RcAt.int_bool c tc b
  | int b =>
   rw [Rep] at h'
   subst h'; obtain ⟨t, rfl⟩ := r'
   exact SeqAt.RcAt.int_int c tc b t
  | str b =>
   rw [Rep] at h'
   subst h'; obtain ⟨t, rfl⟩ := r'
   exact SeqAt.RcAt.int_str c tc b t
  | lst es =>
   rw [Rep] at h'
   obtain ⟨b, ys, rfl, q', qs'⟩ := h'; cases r'
   obtain ⟨its', rv', p', _⟩ := I.list q'
   exact SeqAt.RcAt.int_list c tc p'.isList (by omega)
  | tup es =>
   rw [Rep] at h'
   obtain ⟨b, ys, rfl, q', qs'⟩ := h'; cases r'
   obtain ⟨its', rv', p', _⟩ := I.tuple q'
   exact SeqAt.RcAt.int_tuple c tc p' (by omega)
 | str c =>
  rw [Rep] at h; subst h; obtain ⟨tc, rfl⟩ := r
  cases e with
  | non =>
   rw [Rep] at h'
   subst h'; cases r'
   exact SeqAt.RcAt.str_none c tc
  | bl b =>
   rw [Rep] at h'
   subst h'; cases r'
   exact SeqAt.RcAt.str_bool c tc b
  | int b =>
   rw [Rep] at h'
   subst h'; obtain ⟨t, rfl⟩ := r'
   exact SeqAt.RcAt.str_int c tc b t
  | str b =>
   rw [Rep] at h'
   subst h'; obtain ⟨t, rfl⟩ := r'
   exact SeqAt.RcAt.str_str c tc b t
  | lst es =>
   rw [Rep] at h'
   obtain ⟨b, ys, rfl, q', qs'⟩ := h'; cases r'
   obtain ⟨its', rv', p', _⟩ := I.list q'
   exact SeqAt.RcAt.str_list c tc p'.isList (by omega)
  | tup es =>
   rw [Rep] at h'
   obtain ⟨b, ys, rfl, q', qs'⟩ := h'; cases r'
   obtain ⟨its', rv', p', _⟩ := I.tuple q'
   exact SeqAt.RcAt.str_tuple c tc p' (by omega)
 | lst ds =>
  rw [Rep] at h; obtain ⟨a, xs, rfl, q, qs⟩ := h; cases r
  obtain ⟨its, rv, p, _⟩ := I.list q
  cases e with
  | non =>
   rw [Rep] at h'
   subst h'; cases r'
   exact SeqAt.RcAt.list_none p.isList (by omega)
  | bl b =>
   rw [Rep] at h'
   subst h'; cases r'
   exact SeqAt.RcAt.list_bool b p.isList (by omega)
  | int b =>
   rw [Rep] at h'
   subst h'; obtain ⟨t, rfl⟩ := r'
   exact SeqAt.RcAt.list_int b t p.isList (by omega)
  | str b =>
   rw [Rep] at h'
   subst h'; obtain ⟨t, rfl⟩ := r'
   exact SeqAt.RcAt.list_str b t p.isList (by omega)
  | lst es =>
   rw [Rep] at h'
   obtain ⟨b, ys, rfl, q', qs'⟩ := h'; cases r'
   obtain ⟨its', rv', p', _⟩ := I.list q'
   rw [pyEq]
   rw [zay] at z
   have l1 := qs.length
   have l2 := qs'.length
   have l3 := rv.length
   have l4 := rv'.length
   by_cases hl : ds.length = es.length
   · rw [← zaW ds es hl]
     have := SeqAt.RcAt.lists (e := eqJ ds es) p.isList p'.isList (by simp; omega) (by omega) (fun j h1 h2 => ?_) (A := A)
     · simp only [List.size_toArray] at this
       rw [show ds.length = its.length by omega]
       exact this
     · have := zbm I A.in1 ds es xs ys its its' qs qs' rv rv' (by rw [Around.in1_units]; omega) j (by simpa using h1) (by simpa using h2)
       simpa using this
   · rw [zaU hl]
     exact SeqAt.RcAt.lists_lengths p.isList p'.isList (by simp; omega) (by omega)
  | tup es =>
   rw [Rep] at h'
   obtain ⟨b, ys, rfl, q', qs'⟩ := h'; cases r'
   obtain ⟨its', rv', p', _⟩ := I.tuple q'
   exact SeqAt.RcAt.list_tuple p.isList p' (by omega)
 | tup ds =>
  rw [Rep] at h; obtain ⟨a, xs, rfl, q, qs⟩ := h; cases r
  obtain ⟨its, rv, p, _⟩ := I.tuple q
  cases e with
  | non =>
   rw [Rep] at h'
   subst h'; cases r'
   exact SeqAt.RcAt.tuple_none p (by omega)
  | bl b =>
   rw [Rep] at h'
   subst h'; cases r'
   exact SeqAt.RcAt.tuple_bool b p (by omega)
  | int b =>
   rw [Rep] at h'
   subst h'; obtain ⟨t, rfl⟩ := r'
   exact SeqAt.RcAt.tuple_int b t p (by omega)
  | str b =>
   rw [Rep] at h'
   subst h'; obtain ⟨t, rfl⟩ := r'
   exact SeqAt.RcAt.tuple_str b t p (by omega)
  | lst es =>
   rw [Rep] at h'
   obtain ⟨b, ys, rfl, q', qs'⟩ := h'; cases r'
   obtain ⟨its', rv', p', _⟩ := I.list q'
   exact SeqAt.RcAt.tuple_list p p'.isList (by omega)
  | tup es =>
   rw [Rep] at h'
   obtain ⟨b, ys, rfl, q', qs'⟩ := h'; cases r'
   obtain ⟨its', rv', p', _⟩ := I.tuple q'
   rw [pyEq]
   rw [zay] at z
   have l1 := qs.length
   have l2 := qs'.length
   have l3 := rv.length
   have l4 := rv'.length
   have := SeqAt.RcAt.tuples (e := eqJ ds es) p p' (by omega) (fun j h1 h2 => ?_) (A := A)
   · simp only [List.size_toArray] at this
     by_cases hl : ds.length = es.length
     · rw [← zaW ds es hl]
       rw [show min its.length its'.length = ds.length by omega, show (its.length == its'.length) = true by simp; omega, Bool.and_true] at this
       exact this
     · rw [zaU hl]
       rw [show (its.length == its'.length) = false by simp; omega, Bool.and_false] at this
       exact this
   · have := zbm I A.in1 ds es xs ys its its' qs qs' rv rv' (by rw [Around.in1_units]; omega) j (by simpa using h1) (by simpa using h2)
     simpa using this
theorem zgr (I : Inv X pins σ H s) (A : Around) (d e : PD) (v w : V) (u y : Value) (h : Rep X.K H d v) (h' : Rep X.K H e w) (r : RelV v u) (r' : RelV w y) (z : A.units + zay d < cLine) : SeqAt.RcNeAt A s u y (!pyEq d e) := by
 cases d with
 | non =>
  rw [Rep] at h; subst h; cases r
  cases e with
  | non =>
   rw [Rep] at h'
   subst h'; cases r'
   rw [pyEq]; exact SeqAt.RcNeAt.none_none
  | bl b =>
   rw [Rep] at h'
   subst h'; cases r'
   exact SeqAt.RcNeAt.none_bool b
  | int b =>
   rw [Rep] at h'
   subst h'; obtain ⟨t, rfl⟩ := r'
   exact SeqAt.RcNeAt.none_int b t
  | str b =>
   rw [Rep] at h'
   subst h'; obtain ⟨t, rfl⟩ := r'
   exact SeqAt.RcNeAt.none_str b t
  | lst es =>
   rw [Rep] at h'
   obtain ⟨b, ys, rfl, q', qs'⟩ := h'; cases r'
   obtain ⟨its', rv', p', _⟩ := I.list q'
   exact SeqAt.RcNeAt.none_list p'.isList (by omega)
  | tup es =>
   rw [Rep] at h'
   obtain ⟨b, ys, rfl, q', qs'⟩ := h'; cases r'
   obtain ⟨its', rv', p', _⟩ := I.tuple q'
   exact SeqAt.RcNeAt.none_tuple p' (by omega)
 | bl c =>
  rw [Rep] at h; subst h; cases r
  cases e with
  | non =>
   rw [Rep] at h'
   subst h'; cases r'
   exact SeqAt.RcNeAt.bool_none c
  | bl b =>
   rw [Rep] at h'
   subst h'; cases r'
   exact SeqAt.RcNeAt.bool_bool c b
  | int b =>
   rw [Rep] at h'
   subst h'; obtain ⟨t, rfl⟩ := r'
   exact SeqAt.RcNeAt.bool_int c b t
  | str b =>
   rw [Rep] at h'
   subst h'; obtain ⟨t, rfl⟩ := r'
   exact SeqAt.RcNeAt.bool_str c b t
  | lst es =>
   rw [Rep] at h'
   obtain ⟨b, ys, rfl, q', qs'⟩ := h'; cases r'
   obtain ⟨its', rv', p', _⟩ := I.list q'
   exact SeqAt.RcNeAt.bool_list c p'.isList (by omega)
  | tup es =>
   rw [Rep] at h'
   obtain ⟨b, ys, rfl, q', qs'⟩ := h'; cases r'
   obtain ⟨its', rv', p', _⟩ := I.tuple q'
   exact SeqAt.RcNeAt.bool_tuple c p' (by omega)
 | int c =>
  rw [Rep] at h; subst h; obtain ⟨tc, rfl⟩ := r
  cases e with
  | non =>
   rw [Rep] at h'
   subst h'; cases r'
   exact SeqAt.RcNeAt.int_none c tc
  | bl b =>
   rw [Rep] at h'
   subst h'; cases r'
   exact SeqAt.RcNeAt.int_bool c tc b
  | int b =>
   rw [Rep] at h'
   subst h'; obtain ⟨t, rfl⟩ := r'
   exact SeqAt.RcNeAt.int_int c tc b t
  | str b =>
   rw [Rep] at h'
   subst h'; obtain ⟨t, rfl⟩ := r'
   exact SeqAt.RcNeAt.int_str c tc b t
  | lst es =>
   rw [Rep] at h'
   obtain ⟨b, ys, rfl, q', qs'⟩ := h'; cases r'
   obtain ⟨its', rv', p', _⟩ := I.list q'
   exact SeqAt.RcNeAt.int_list c tc p'.isList (by omega)
  | tup es =>
   rw [Rep] at h'
   obtain ⟨b, ys, rfl, q', qs'⟩ := h'; cases r'
   obtain ⟨its', rv', p', _⟩ := I.tuple q'
   exact SeqAt.RcNeAt.int_tuple c tc p' (by omega)
 | str c =>
  rw [Rep] at h; subst h; obtain ⟨tc, rfl⟩ := r
  cases e with
  | non =>
   rw [Rep] at h'
   subst h'; cases r'
   exact SeqAt.RcNeAt.str_none c tc
  | bl b =>
   rw [Rep] at h'
   subst h'; cases r'
   exact SeqAt.RcNeAt.str_bool c tc b
  | int b =>
   rw [Rep] at h'
   subst h'; obtain ⟨t, rfl⟩ := r'
   exact SeqAt.RcNeAt.str_int c tc b t
  | str b =>
   rw [Rep] at h'
   subst h'; obtain ⟨t, rfl⟩ := r'
   exact SeqAt.RcNeAt.str_str c tc b t
  | lst es =>
   rw [Rep] at h'
   obtain ⟨b, ys, rfl, q', qs'⟩ := h'; cases r'
   obtain ⟨its', rv', p', _⟩ := I.list q'
   exact SeqAt.RcNeAt.str_list c tc p'.isList (by omega)
  | tup es =>
   rw [Rep] at h'
   obtain ⟨b, ys, rfl, q', qs'⟩ := h'; cases r'
   obtain ⟨its', rv', p', _⟩ := I.tuple q'
   exact SeqAt.RcNeAt.str_tuple c tc p' (by omega)
 | lst ds =>
  rw [Rep] at h; obtain ⟨a, xs, rfl, q, qs⟩ := h; cases r
  obtain ⟨its, rv, p, _⟩ := I.list q
  cases e with
  | non =>
   rw [Rep] at h'
   subst h'; cases r'
   exact SeqAt.RcNeAt.list_none p.isList (by omega)
  | bl b =>
   rw [Rep] at h'
   subst h'; cases r'
   exact SeqAt.RcNeAt.list_bool b p.isList (by omega)
  | int b =>
   rw [Rep] at h'
   subst h'; obtain ⟨t, rfl⟩ := r'
   exact SeqAt.RcNeAt.list_int b t p.isList (by omega)
  | str b =>
   rw [Rep] at h'
   subst h'; obtain ⟨t, rfl⟩ := r'
   exact SeqAt.RcNeAt.list_str b t p.isList (by omega)
  | lst es =>
   rw [Rep] at h'
   obtain ⟨b, ys, rfl, q', qs'⟩ := h'; cases r'
   obtain ⟨its', rv', p', _⟩ := I.list q'
   rw [pyEq]
   rw [zay] at z
   have l1 := qs.length
   have l2 := qs'.length
   have l3 := rv.length
   have l4 := rv'.length
   by_cases hl : ds.length = es.length
   · rw [← zaW ds es hl]
     have := SeqAt.RcNeAt.lists (e := eqJ ds es) p.isList p'.isList (by simp; omega) (by omega) (fun j h1 h2 => ?_) (A := A)
     · simp only [List.size_toArray] at this
       rw [show ds.length = its.length by omega]
       exact this
     · have := zbm I A.in1 ds es xs ys its its' qs qs' rv rv' (by rw [Around.in1_units]; omega) j (by simpa using h1) (by simpa using h2)
       simpa using this
   · rw [zaU hl]
     exact SeqAt.RcNeAt.lists_lengths p.isList p'.isList (by simp; omega) (by omega)
  | tup es =>
   rw [Rep] at h'
   obtain ⟨b, ys, rfl, q', qs'⟩ := h'; cases r'
   obtain ⟨its', rv', p', _⟩ := I.tuple q'
   exact SeqAt.RcNeAt.list_tuple p.isList p' (by omega)
 | tup ds =>
  rw [Rep] at h; obtain ⟨a, xs, rfl, q, qs⟩ := h; cases r
  obtain ⟨its, rv, p, _⟩ := I.tuple q
  cases e with
  | non =>
   rw [Rep] at h'
   subst h'; cases r'
   exact SeqAt.RcNeAt.tuple_none p (by omega)
  | bl b =>
   rw [Rep] at h'
   subst h'; cases r'
   exact SeqAt.RcNeAt.tuple_bool b p (by omega)
  | int b =>
   rw [Rep] at h'
   subst h'; obtain ⟨t, rfl⟩ := r'
   exact SeqAt.RcNeAt.tuple_int b t p (by omega)
  | str b =>
   rw [Rep] at h'
   subst h'; obtain ⟨t, rfl⟩ := r'
   exact SeqAt.RcNeAt.tuple_str b t p (by omega)
  | lst es =>
   rw [Rep] at h'
   obtain ⟨b, ys, rfl, q', qs'⟩ := h'; cases r'
   obtain ⟨its', rv', p', _⟩ := I.list q'
   exact SeqAt.RcNeAt.tuple_list p p'.isList (by omega)
  | tup es =>
   rw [Rep] at h'
   obtain ⟨b, ys, rfl, q', qs'⟩ := h'; cases r'
   obtain ⟨its', rv', p', _⟩ := I.tuple q'
   rw [pyEq]
   rw [zay] at z
   have l1 := qs.length
   have l2 := qs'.length
   have l3 := rv.length
   have l4 := rv'.length
   have := SeqAt.RcNeAt.tuples (e := eqJ ds es) p p' (by omega) (fun j h1 h2 => ?_) (A := A)
   · simp only [List.size_toArray] at this
     by_cases hl : ds.length = es.length
     · rw [← zaW ds es hl]
       rw [show min its.length its'.length = ds.length by omega, show (its.length == its'.length) = true by simp; omega, Bool.and_true] at this
       exact this
     · rw [zaU hl]
       rw [show (its.length == its'.length) = false by simp; omega, Bool.and_false] at this
       exact this
   · have := zbm I A.in1 ds es xs ys its its' qs qs' rv rv' (by rw [Around.in1_units]; omega) j (by simpa using h1) (by simpa using h2)
     simpa using this
end
def ze1 (X : Cx) : Prop := X.A.units + 60 < cLine
section
variable {X : Cx}
def rEqD (K : PySem.W.Frag) : R2 := fun x y H Q => ∃ d e, Rep K H d x ∧ Rep K H e y ∧ zay d < 60 ∧ Q (.bl (pyEq d e)) H
def rNeD (K : PySem.W.Frag) : R2 := fun x y H Q => ∃ d e, Rep K H d x ∧ Rep K H e y ∧ zay d < 60 ∧ Q (.bl (!pyEq d e)) H
theorem ziM (hr : ze1 X) : OpR X (compareOp .Eq) (rEqD X.K) := by
 intro pins s σ H x y v u Q I rx ry h
 obtain ⟨d, e, h1, h2, h3, q⟩ := h
 unfold ze1 at hr
 exact zcv I X.A d e x y v u h1 h2 rx ry (by omega) X.prog X.w _ _ ⟨.bl _, H, I, rfl, q⟩
theorem ziL (hr : ze1 X) : OpR X (compareOp .NotEq) (rNeD X.K) := by
 intro pins s σ H x y v u Q I rx ry h
 obtain ⟨d, e, h1, h2, h3, q⟩ := h
 unfold ze1 at hr
 exact zgr I X.A d e x y v u h1 h2 rx ry (by omega) X.prog X.w _ _ ⟨.bl _, H, I, rfl, q⟩
theorem zbJ {A : Around} {k : Nat} (hr : Room k A) : A.units + 60 < cLine := Nat.lt_of_le_of_lt (Nat.add_le_add_left (by decide : 60 ≤ 64) _) hr.units
theorem zam {n : String} : zdw X (.builtin "isinstance") (fun xs H Q => ∃ x t c b, xs = [x, .ty c] ∧ TyOf X.K H x (.type t) ∧ PySem.W.kitOne X.K (.type t) (.type c) = some b ∧ Q (.bl b) H) := by
 intro pins s σ H xs us Q I r h
 obtain ⟨x, t, c, b, rfl, ty, e, q⟩ := h
 obtain ⟨u, w', rfl, ru, rw'⟩ := zgk r
 cases rw'
 exact zhD I ru ty e fun tk => ⟨.bl b, H, I.tok tk, rfl, q⟩
def gLst (K : PySem.W.Frag) (n : Nat) (t : TGs) : TG := fun v σ H Q => ∃ a xs, v = .ref a ∧ SqL K H a xs ∧ xs.length = n ∧ t xs σ H Q
end
section
variable {prog : Program} {w : World} {A : Around} {E : Value → Shared → Prop}
theorem zf9 {it a : Addr} {its : Array Value} (ne : a ≠ it) : ∀ (n i : Nat) (s : Shared) (Q : List Value → Shared → Prop), s.heap.IsListIter it a i → s.heap.IsList a its → i + n ≤ its.size →
 (∀ g, g.IsListIter it a (i + n) → Heap.SameBut it s.heap g → Q ((its.toList.drop i).take n) { s with heap := g }) → wpAny (model prog w) A (draw (.ref it) n) Q E s
 | 0, i, s, Q, st, _, _, fin => by
  show wpAny _ _ (pure []) Q E s
  exact wpAny_pure (by simpa using fin s.heap st (Heap.SameBut.refl ..))
 | n + 1, i, s, Q, st, hl, le, fin => by
  have lt : i < its.size := by omega
  show wpAny _ _ (pyNext (.ref it) >>= _) Q E s
  refine wpAny_bind (wpAny_pyNext_list_item st hl (x := its[i]) (by simp [lt]) fun g st' sb => ?_)
  refine wpAny_bind (wpAny_holding (zf9 ne n (i + 1) _ _ st' (hl.extBut sb.extBut ne) (by omega) fun g2 st2 sb2 => wpAny_pure ?_))
  have e1 : its.toList.drop i = its[i] :: its.toList.drop (i + 1) := by simp [List.drop_eq_getElem_cons, lt]
  have z := fin g2 (by rw [show i + (n + 1) = i + 1 + n by omega]; exact st2) (sb.trans sb2)
  rw [e1, List.take_succ_cons] at z
  exact z
theorem zgl {s : Shared} {a : Addr} {its : Array Value} {targets : List (Bool × (Value → Sem Unit))} {Q : Unit → Shared → Prop} (hh : A.handled = none) (hl : s.heap.IsList a its)
 (hn : targets.length = its.size) (hst : targets.findIdx? (·.1) = none)
 (h : ∀ g, (∀ b o, s.heap.get? b = some o → g.get? b = some o) → wpAny (model prog w) A (assignInOrder (targets.map (·.2)) its.toList) Q E { s with heap := g }) :
 wpAny (model prog w) A (unpack (.ref a) targets) Q E s := by
 have ne : a ≠ s.heap.objs.size := by obtain ⟨o, ho, _⟩ := hl; exact Nat.ne_of_lt (Heap.lt_size ho)
 unfold unpack
 rw [hn, hst]
 refine wpAny_bind (wpAny_holding ?_)
 unfold unpackItems
 refine wpAny_bind ?_
 unfold notIterableAtAll
 refine wpAny_bind (wpAny_specialOf hl.typeIs slot_list_iter.lookup ?_)
 refine wpAny_pure ?_
 simp only [Bool.false_eq_true, if_false]
 refine wpAny_bind (wpAny_holding (wpAny_pyIter_list hl ?_))
 have kp : ∀ b o, s.heap.get? b = some o → (s.heap.push { cls := .type "list_iterator", data := .fields #[.ref a, .int 0 0] }).get? b = some o := fun b o e => Heap.get?_push_of_some _ e
 refine wpAny_bind (wpAny_holding (zf9 ne its.size 0 _ _ ⟨_, Heap.get?_push_size _ rfl, rfl, rfl⟩ (hl.at fun o e => kp a o e) (by omega) fun g st sb => ?_))
 have all : List.take its.size (List.drop 0 its.toList) = its.toList := by
  rw [List.drop_zero]; exact List.take_of_length_le (by simp)
 rw [all]
 rw [if_neg (by simp)]
 have hl1 : g.IsList a its := (hl.at fun o e => kp a o e).extBut sb.extBut ne
 refine wpAny_bind (wpAny_holding (wpAny_pyNext_list_end hh st hl1 (by simp) fun g2 eb => ?_))
 simp only [Option.isSome_none, Bool.false_eq_true, if_false]
 refine wpAny_pure (h g2 fun b o e => ?_)
 have hb : b ≠ s.heap.objs.size := Nat.ne_of_lt (Heap.lt_size e)
 exact eb b o hb (sb.extBut b o hb (kp b o e))
end
section
variable {X : Cx}
theorem zjF {es : List Expr} {k : Nat} {t : TGs} {n : Nat} {pos : Pos} (hc : X.calm = true) (h : PGs X es t)
 (hn : (assignEach es X.env).length = n := by rfl) (hst : (assignEach es X.env).findIdx? (·.1) = none := by rfl) : PG X (.Tuple es k pos) (gLst X.K n t) := by
 intro pins s σ H v u Q I r hw
 obtain ⟨a, xs, e1, hq, hl, hw⟩ := hw
 subst e1
 cases r
 obtain ⟨its, rv, p, hz⟩ := I.list hq
 rw [assign_Tuple]
 refine wpAny_bind (wpAny_standAt (zgl (I.ok.hd hc) p.isList (by simp [hn, ← hl, rv.length]) hst fun g kp => ?_))
 exact h pins _ σ H xs _ Q (I.kept (t' := s.toks) kp) (by simpa using rv) hw
end
section
variable {K : PySem.W.Frag} {a p : Addr} {xs : List V} {g : TG} {tc : TT} {te : TE} {σ : St} {H : Hp} {Q : VK}
abbrev zdL (p : Addr) (g : TG) (tc : TT) (te : TE) (ys : List V) (x : V) (σ : St) (H : Hp) (N : St → List V → Hp → Prop) : Prop :=
 g x σ H fun σ2 H2 => tc σ2 H2 fun b H3 => if b = true then te σ2 H3 fun y H4 => H4 p = some (.lst ys) ∧ N σ2 (ys ++ [y]) (upd H4 p (.lst (ys ++ [y]))) else N σ2 ys H3
theorem zeL {n : Nat} {J : It} {js : Cap} (Pv : Nat → St → List V → Hp → Prop) (h0 : Pv 0 (inn js σ) [] (upd H p (.lst [])))
 (hl : ∀ i σ ys H, i ≤ n → Pv i σ ys H → H p = some (.lst ys) ∧ ys.length < sizeLine)
 (hgo : ∀ i σ ys H, i < n → Pv i σ ys H → J.go i H) (hst : ∀ σ ys H, Pv n σ ys H → J.stop n H)
 (hs : ∀ (i : Nat) x σ ys H H' (N : St → List V → Hp → Prop), i < n → J.yld i H x H' → Pv i σ ys H → (∀ σ' ys' H', Pv (i + 1) σ' ys' H' → N σ' ys' H') → zdL p g tc te ys x σ H' N)
 (hd : ∀ σ ys H, Pv n σ ys H → Q (.ref p) H) :
 zcG J p js g tc te σ H Q := by
 refine ⟨fun i m σ ys H => m = n - i ∧ i ≤ n ∧ Pv i σ ys H, ⟨n, by simp, Nat.zero_le _, h0⟩, ?_⟩
 rintro i m σ ys H ⟨rfl, hi, pv⟩
 obtain ⟨q1, q2⟩ := hl i σ ys H hi pv
 refine ⟨q1, ?_⟩
 by_cases lt : i < n
 · exact .inr ⟨hgo i σ ys H lt pv, q2, fun x H' y => hs i x σ ys H H' (fun σ2 ys2 H2 => ∃ m', m' < n - i ∧ m' = n - (i + 1) ∧ i + 1 ≤ n ∧ Pv (i + 1) σ2 ys2 H2) lt y pv fun σ' ys' H' p' => ⟨n - (i + 1), by omega, rfl, lt, p'⟩⟩
 · have e : i = n := by omega
   subst e
   exact .inl ⟨hst σ ys H pv, hd σ ys H pv⟩
theorem zhu {js : Cap} (Pv : Nat → St → List V → Hp → Prop) (h0 : Pv 0 (inn js σ) [] (upd H p (.lst [])))
 (hl : ∀ i σ ys H, i ≤ xs.length → Pv i σ ys H → SqL K H a xs ∧ H p = some (.lst ys) ∧ ys.length < sizeLine)
 (hs : ∀ (i : Nat) x σ ys H (N : St → List V → Hp → Prop), xs[i]? = some x → Pv i σ ys H → (∀ σ' ys' H', Pv (i + 1) σ' ys' H' → N σ' ys' H') → zdL p g tc te ys x σ H N)
 (hd : ∀ σ ys H, Pv xs.length σ ys H → Q (.ref p) H) : zcG (Itl K a) p js g tc te σ H Q :=
 zeL (n := xs.length) (J := Itl K a) (js := js) (σ := σ) (H := H) (p := p) (Q := Q) (g := g) (tc := tc) (te := te) Pv h0 (fun i σ ys H hi pv => (hl i σ ys H hi pv).2)
  (fun i σ ys H hi pv => ⟨xs, xs[i], (hl i σ ys H (Nat.le_of_lt hi) pv).1, by simp [hi]⟩) (fun σ ys H pv => ⟨xs, (hl _ σ ys H (Nat.le_refl _) pv).1, Nat.le_refl _⟩)
  (fun i x σ ys H H' N hi y pv hN => by
   obtain ⟨e, y⟩ := y
   subst e
   exact hs i x σ ys _ N (y xs (hl i σ ys _ (Nat.le_of_lt hi) pv).1) pv hN) hd
theorem ziO {js : Cap} (Pv : Nat → St → List V → Hp → Prop) (h0 : Pv 0 (inn js σ) [] (upd H p (.lst [])))
 (hl : ∀ i σ ys H, i ≤ xs.length → Pv i σ ys H → SqT K H a xs ∧ H p = some (.lst ys) ∧ ys.length < sizeLine)
 (hs : ∀ (i : Nat) x σ ys H (N : St → List V → Hp → Prop), xs[i]? = some x → Pv i σ ys H → (∀ σ' ys' H', Pv (i + 1) σ' ys' H' → N σ' ys' H') → zdL p g tc te ys x σ H N)
 (hd : ∀ σ ys H, Pv xs.length σ ys H → Q (.ref p) H) : zcG (Itt K a) p js g tc te σ H Q :=
 zeL (n := xs.length) (J := Itt K a) (js := js) (σ := σ) (H := H) (p := p) (Q := Q) (g := g) (tc := tc) (te := te) Pv h0 (fun i σ ys H hi pv => (hl i σ ys H hi pv).2)
  (fun i σ ys H hi pv => ⟨xs, xs[i], (hl i σ ys H (Nat.le_of_lt hi) pv).1, by simp [hi]⟩) (fun σ ys H pv => ⟨xs, (hl _ σ ys H (Nat.le_refl _) pv).1, Nat.le_refl _⟩)
  (fun i x σ ys H H' N hi y pv hN => by
   obtain ⟨e, y⟩ := y
   subst e
   exact hs i x σ ys _ N (y xs (hl i σ ys _ (Nat.le_of_lt hi) pv).1) pv hN) hd
theorem zcC {js : Cap} {lo : Int} {n : Nat} (Pv : Nat → St → List V → Hp → Prop) (h0 : Pv 0 (inn js σ) [] (upd H p (.lst [])))
 (hl : ∀ i σ ys H, i ≤ n → Pv i σ ys H → H p = some (.lst ys) ∧ ys.length < sizeLine)
 (hs : ∀ (i : Nat) σ ys H (N : St → List V → Hp → Prop), i < n → Pv i σ ys H → (∀ σ' ys' H', Pv (i + 1) σ' ys' H' → N σ' ys' H') → zdL p g tc te ys (.int (lo + i)) σ H N)
 (hd : ∀ σ ys H, Pv n σ ys H → Q (.ref p) H) : zcG (Itr lo n) p js g tc te σ H Q :=
 zeL (n := n) (J := Itr lo n) (js := js) (σ := σ) (H := H) (p := p) (Q := Q) (g := g) (tc := tc) (te := te) Pv h0 hl
  (fun i σ ys H hi pv => hi) (fun σ ys H pv => Nat.le_refl n)
  (fun i x σ ys H H' N hi y pv hN => by
   obtain ⟨e, y⟩ := y
   subst e y
   exact hs i σ ys _ N hi pv hN) hd
end
def zgd (outer : Scope) (N N' : List Str) (js : Cap) (scope : Scope) : Bool :=
 decide (js.length = N'.length) && (scope.kind == .function) && scope.names.all (fun p => p.2 != .cell && (p.2 != .local || scope.names.lookup p.1 == some .local) && (p.2 != .free || (outer.names.lookup p.1 == some .cell || outer.names.lookup p.1 == some .free)))
  && (List.range js.length).all fun i => match js[i]? with
   | some (some j) => (match N'[i]? with | some x => N[j]? == some x && scope.names.lookup x == some .free | none => false)
   | _ => true
theorem zc3 {X : Cx} {N N' : List Str} {js : Cap} {scope outer : Scope} (h : zgd outer N N' js scope = true) (hN : X.N = N := by rfl) (ho : X.env.scope = outer := by rfl) : CapOk X N' js scope := by
 subst hN ho
 unfold zgd at h
 rw [Bool.and_eq_true, Bool.and_eq_true, Bool.and_eq_true] at h
 obtain ⟨⟨⟨h1, h2⟩, h3⟩, h4⟩ := h
 rw [List.all_eq_true] at h3 h4
 refine ⟨of_decide_eq_true h1, eq_of_beq h2, fun p hp e => ?_, fun p hp e => ?_, fun p hp e => ?_, fun i j e => ?_⟩
 · have := h3 p hp
   rw [e] at this
   simp at this
 · have := h3 p hp
   rw [e] at this
   simp at this
   exact this
 · have := h3 p hp
   rw [e] at this
   simp at this
   exact this
 · have hi : i < js.length := (List.getElem?_eq_some_iff.mp e).1
   have := h4 i (List.mem_range.mpr hi)
   rw [e] at this
   simp only at this
   cases q : N'[i]? with
   | none => rw [q] at this; cases this
   | some x =>
    rw [q] at this
    simp only [Bool.and_eq_true, beq_iff_eq] at this
    exact ⟨x, rfl, this.1, this.2⟩
def FnH (P : Program) (w : World) (K : PySem.W.Frag) (mg : Str → Option Value) (base : Heap) (k : Nat) (x : Str) (ps : List Str) (sp : Sp) : Prop :=
 ∃ f fd, FnOk P w K mg base CX0 k f fd ps sp ∧ Binds K fd ps [] ∧ PySem.W.keepIn K (.ref f) = true ∧ mg x = some (.ref f)
section
variable {X : Cx} {k : Nat} {x : Str} {ps : List Str} {sp : Sp} {e : Expr} {es : List Expr} {t : TA} {p pos : Pos}
theorem zau (F : FnH X.prog X.w X.K X.mg X.base k x ps sp) (hr : Room k X.A) (hg : Gl X x) (ha : PA X (e :: es) t) (hdb : (x == ("__debug__" : Str)) = false := by decide)
 (he : starEach (e :: es) X.env = (false, eval e X.env) :: starEach es X.env := by rfl) (hpl : (backTo pos (starEach es X.env)).any (·.1) = false := by rfl) : PE X (.Call (.Name x p) (e :: es) [] pos) (zju sp [] E0 t) := by
 obtain ⟨f, fd, h1, h2, h3, h4⟩ := F
 exact zjb h1 hr hg h4 h3 h2 .nil zjJ ha hdb he hpl
end
structure Bl (mg : Str → Option Value) : Prop where
 len_ : mg "len" = none
 range_ : mg "range" = none
 isinstance_ : mg "isinstance" = none
 int_ : mg "int" = none
 bool_ : mg "bool" = none
 tuple_ : mg "tuple" = none
 list_ : mg "list" = none
 max_ : mg "max" = none
 min_ : mg "min" = none
 all_ : mg "all" = none
 zip_ : mg "zip" = none
 str_ : mg "str" = none
 dict_ : mg "dict" = none
 sorted_ : mg "sorted" = none
 set_ : mg "set" = none
 any_ : mg "any" = none
 sum_ : mg "sum" = none
 enumerate_ : mg "enumerate" = none
 repr_ : mg "repr" = none
 ord_ : mg "ord" = none
 chr_ : mg "chr" = none
 abs_ : mg "abs" = none
 reversed_ : mg "reversed" = none
theorem zgf : bootBuiltins "int" = some (.type "int") := by decide +kernel
theorem zek : bootBuiltins "bool" = some (.type "bool") := by decide +kernel
theorem zbt : bootBuiltins "tuple" = some (.type "tuple") := by decide +kernel
theorem zcs : bootBuiltins "list" = some (.type "list") := by decide +kernel
theorem zge : bootBuiltins "str" = some (.type "str") := by decide +kernel
theorem zj3 : bootBuiltins "set" = some (.type "set") := by decide +kernel
theorem zaj : bootBuiltins "isinstance" = some (.builtin "isinstance") := by decide +kernel
theorem zaY : bootBuiltins "len" = some (.builtin "len") := by decide +kernel
theorem zhW : bootBuiltins "max" = some (.builtin "max") := by decide +kernel
theorem ziT : bootBuiltins "min" = some (.builtin "min") := by decide +kernel
theorem zeT : bootBuiltins "all" = some (.builtin "all") := by decide +kernel
theorem zeS : bootBuiltins "sorted" = some (.builtin "sorted") := by decide +kernel
theorem zgp {n : Nat} (h : n ≤ 1000) : n ≤ sizeLine := Nat.le_of_lt (zaA h)
theorem zag {H : Hp} {p : Addr} (h : H p = none) (o : HO) : Same H (upd H p o) := fun b u q => by rw [zal (zao q h)]; exact q
def eV : Option Int → V
 | none => .non
 | some i => .int i
def bigM : Int := 618970019642690137449562111
structure Bag (H : Hp) (b g l : Addr) (n : Int) : Prop where
 ex : ∃ (gs ls : List Int) (c st : Int), H b = some (.lst [.ref g, .ref l, .int c, .int st]) ∧ H g = some (.lst (gs.map V.int)) ∧ H l = some (.lst (ls.map V.int)) ∧
  gs.length ≤ 63 ∧ 0 < ls.length ∧ ls.length ≤ 64 ∧ (∀ x ∈ ls, 0 ≤ x ∧ x < 10 ^ 18) ∧ 0 ≤ c ∧ c ≤ n ∧ 0 ≤ st ∧ st < bigM
 gl : g ≠ l
def SameB (b g : Addr) (H H' : Hp) : Prop := ∀ a o, H a = some o → a ≠ b → a ≠ g → H' a = some o
theorem Bag.bg {H : Hp} {b g l : Addr} {n : Int} (B : Bag H b g l n) : b ≠ g := by
 obtain ⟨gs, ls, c, st, h1, h2, _⟩ := B.ex
 intro e
 rw [e, h2] at h1
 cases gs with
 | nil => cases h1
 | cons x r => injection h1 with h1; injection h1 with h1; injection h1 with h1 _; cases h1
theorem Bag.bl {H : Hp} {b g l : Addr} {n : Int} (B : Bag H b g l n) : b ≠ l := by
 obtain ⟨gs, ls, c, st, h1, h2, h3, _⟩ := B.ex
 intro e
 rw [e, h3] at h1
 cases ls with
 | nil => cases h1
 | cons x r => injection h1 with h1; injection h1 with h1; injection h1 with h1 _; cases h1
theorem Bag.mono {H : Hp} {b g l : Addr} {n m : Int} (B : Bag H b g l n) (h : n ≤ m) : Bag H b g l m := by
 obtain ⟨⟨gs, ls, c, st, h1, h2, h3, h4, h5, h6, h7, h8, h9, h10⟩, gl⟩ := B
 exact ⟨⟨gs, ls, c, st, h1, h2, h3, h4, h5, h6, h7, h8, Int.le_trans h9 h, h10⟩, gl⟩
theorem Bag.same {H H' : Hp} {b g l : Addr} {n : Int} (B : Bag H b g l n) (h : Same H H') : Bag H' b g l n := by
 obtain ⟨⟨gs, ls, c, st, h1, h2, h3, h4⟩, gl⟩ := B
 exact ⟨⟨gs, ls, c, st, h _ _ h1, h _ _ h2, h _ _ h3, h4⟩, gl⟩
theorem SameB.refl (b g : Addr) (H : Hp) : SameB b g H H := fun _ _ h _ _ => h
theorem SameB.trans {b g : Addr} {H H1 H2 : Hp} (x : SameB b g H H1) (y : SameB b g H1 H2) : SameB b g H H2 := fun a o h n1 n2 => y a o (x a o h n1 n2) n1 n2
theorem Same.sameB {b g : Addr} {H H1 : Hp} (x : Same H H1) : SameB b g H H1 := fun a o h _ _ => x a o h
theorem SameB.tup {b g l : Addr} {n : Int} {H H' : Hp} (B : Bag H b g l n) (s : SameB b g H H') {a : Addr} {xs : List V} (h : H a = some (.tup xs)) : H' a = some (.tup xs) := by
 obtain ⟨gs, ls, c, st, h1, h2, _⟩ := B.ex
 exact s a _ h (zje h h1 (by intro z; cases z)) (zje h h2 (by intro z; cases z))
theorem Bag.free {H : Hp} {b g l : Addr} {n : Int} (B : Bag H b g l n) {p : Addr} (h : H p = none) : p ≠ b ∧ p ≠ g ∧ p ≠ l := by
 obtain ⟨gs, ls, c, st, h1, h2, h3, _⟩ := B.ex
 exact ⟨(zao h1 h).symm, (zao h2 h).symm, (zao h3 h).symm⟩
theorem zgi {c : TT} {tb u : TS} {D : Ends} {σ : St} {H : Hp} (W : Nat → St → Hp → Prop) (M : St → Hp → Prop) (h0 : ∃ m, W m σ H)
 (hs : ∀ (m : Nat) σ H (Z : St → Hp → Prop), W m σ H → (∀ σ' H', M σ' H' → Z σ' H') → c σ H fun b H1 => if b = true then ∃ N : St → Hp → Prop, (∀ σ' H', N σ' H' → ∃ m', m' < m ∧ W m' σ' H') ∧ tb { nx := N, rt := D.rt, bk := Z, ct := N } σ H1 else Z σ H1)
 (hd : ∀ σ H, M σ H → u D σ H) : tSeq (ziC c tb) u D σ H := ⟨W, h0, fun m σ H w => hs m σ H (u D) w hd⟩
theorem zd1 {K : PySem.W.Frag} {H : Hp} : ∀ ns : List Int, Reps K H (ns.map PD.int) (ns.map V.int)
 | [] => by show Reps K H [] []; rw [Reps]
 | n :: ns => by
  show Reps K H (.int n :: ns.map PD.int) (.int n :: ns.map V.int)
  rw [Reps]
  exact ⟨_, _, rfl, by rw [Rep], zd1 ns⟩
theorem zcP : ∀ ns : List Int, zav (ns.map PD.int) = 0
 | [] => by show zav [] = 0; rw [zav]
 | n :: ns => by
  show zav (.int n :: ns.map PD.int) = 0
  rw [zav, zcP ns, zay]
  all_goals simp
theorem zko {K : PySem.W.Frag} {H : Hp} {a p : Addr} {ns : List Int} {Q : VK} (h : SqL K H a (ns.map V.int)) (hp : SqL K H p []) (q : Q (.bl ns.isEmpty) H) : rEqD K (.ref a) (.ref p) H Q := by
 refine ⟨.lst (ns.map PD.int), .lst [], by rw [Rep]; exact ⟨a, _, rfl, h, zd1 ns⟩, by rw [Rep]; exact ⟨p, _, rfl, hp, by rw [Reps]⟩, by rw [zay, zcP]; decide, ?_⟩
 cases ns with
 | nil => rw [pyEq, show zbk (([] : List Int).map PD.int) [] = true from zbi []]; exact q
 | cons n ns => rw [pyEq, zaU (by simp)]; exact q
theorem zjP {K : PySem.W.Frag} {H : Hp} {a p : Addr} {ns : List Int} {Q : VK} (h : SqL K H a (ns.map V.int)) (hp : SqL K H p []) (q : Q (.bl (!ns.isEmpty)) H) : rNeD K (.ref a) (.ref p) H Q := by
 refine ⟨.lst (ns.map PD.int), .lst [], by rw [Rep]; exact ⟨a, _, rfl, h, zd1 ns⟩, by rw [Rep]; exact ⟨p, _, rfl, hp, by rw [Reps]⟩, by rw [zay, zcP]; decide, ?_⟩
 cases ns with
 | nil => rw [pyEq, show zbk (([] : List Int).map PD.int) [] = true from zbi []]; exact q
 | cons n ns => rw [pyEq, zaU (by simp)]; exact q
theorem at0 {α : Type} {x : α} {r : List α} : atI (x :: r) 0 = some x := za4 (j := 0) rfl
theorem ix0 {α : Type} {x : α} {r : List α} : ixN (x :: r).length 0 = some 0 := by
 unfold ixN
 rw [if_pos (by decide), if_pos (by rw [List.length_cons]; omega)]
 rfl
theorem zj6 {ls : List Int} {i : Int} (h0 : 0 ≤ i) (h1 : i < (ls.length : Int)) : ∃ v, atI (ls.map V.int) i = some (.int v) ∧ v ∈ ls := by
 obtain ⟨k, rfl⟩ := Int.eq_ofNat_of_zero_le h0
 have hk : k < ls.length := by omega
 exact ⟨ls[k], za4 (by rw [List.getElem?_map, List.getElem?_eq_getElem hk]; rfl), List.getElem_mem _⟩
theorem sz0 : (0 : Nat) ≤ sizeLine := Nat.zero_le _
def zgS : Sp := fun vs H Q _ => ∃ (b g l : Addr) (n many : Int), vs = [.ref b, .int many] ∧ Bag H b g l n ∧ n ≤ 2 ^ 40 ∧ 0 < many ∧ many < 2 ^ 500 ∧
 ∀ (r : Int) (H' : Hp), 0 ≤ r → r < many → Bag H' b g l (n + 1) → SameB b g H H' → Q (.int r) H'
def zi2 (K : PySem.W.Frag) : Sp := fun vs H Q _ => ∃ (a : Addr) (ns : List Int), vs = [.ref a] ∧ SqL K H a (ns.map V.int) ∧ ns.length ≤ 63 ∧
 ∀ (b g l : Addr) (H' : Hp), Bag H' b g l 0 → Same H H' → H b = none → H g = none → Q (.ref b) H'
theorem zaE {α : Type} {l : List α} {i : Nat} {x : α} (h : l[i]? = some x) : l.take (i + 1) = l.take i ++ [x] := by
 rw [List.take_succ, h]
 rfl
theorem zhv {K : PySem.W.Frag} {H : Hp} {a p : Addr} {Q : VK} {js : Cap} {σ cap : St} {tc : TT} {te : TE} (ns : List Int) (f : Int → Int) (c : Int → Bool) (hn : ns.length ≤ 900) (e : SqL K H a (ns.map V.int)) (hp : H p = none) (hσ : inn js σ = none :: cap)
 (ht : ∀ n H' (R : Bool → Hp → Prop), Same H H' → R (c n) H' → tc (some (.int n) :: cap) H' R) (he : ∀ n H' (R : VK), Same H H' → R (.int (f n)) H' → te (some (.int n) :: cap) H' R)
 (hq : ∀ H', Same H H' → H' p = some (.lst (((ns.filter c).map f).map V.int)) → Q (.ref p) H') : zcG (Itl K a) p js (zgE 0) tc te σ H Q := by
 have s0 := zag hp (.lst [])
 refine zhu (xs := ns.map V.int) (fun i σ' ys H' => (∃ v, σ' = v :: cap) ∧ Same H H' ∧ H' p = some (.lst ys) ∧ ys = ((((ns.take i).filter c).map f).map V.int)) ⟨⟨_, hσ⟩, s0, zad, rfl⟩ ?_ ?_ ?_
 · rintro i σ' ys H' hi ⟨_, s, h1, h2⟩
   refine ⟨s.seq e, h1, ?_⟩
   rw [h2]
   simp only [List.length_map]
   have := List.length_filter_le c (ns.take i)
   rw [List.length_take] at this
   exact zaA (by omega)
 · rintro i x σ' ys H' N hx ⟨⟨v, rfl⟩, s, h1, h2⟩ hN
   rw [List.getElem?_map] at hx
   cases hn' : ns[i]? with
   | none => rw [hn'] at hx; cases hx
   | some n =>
    rw [hn'] at hx
    have hx : V.int n = x := Option.some.inj hx
    subst hx
    refine ht n H' _ s ?_
    have e1 := zaE hn'
    cases hc : c n with
    | true =>
     refine iteT (he n H' _ s ⟨h1, hN _ _ _ ⟨⟨_, rfl⟩, ?_, zad, ?_⟩⟩)
     · intro b o q
       have : b ≠ p := fun z => by rw [z, hp] at q; cases q
       rw [zal this]
       exact s b o q
     · rw [h2, e1, List.filter_append, List.filter_cons, if_pos hc]
       simp
    | false =>
     refine iteF (hN _ _ _ ⟨⟨_, rfl⟩, s, h1, ?_⟩)
     rw [h2, e1, List.filter_append, List.filter_cons, if_neg (by rw [hc]; exact Bool.false_ne_true)]
     simp
 · rintro σ' ys H' ⟨_, s, h1, h2⟩
   refine hq H' s ?_
   rw [h1, h2, List.length_map, List.take_length]
theorem Same.seqT {K : PySem.W.Frag} {H H' : Hp} {a : Addr} {xs : List V} (e : Same H H') (h : SqT K H a xs) : SqT K H' a xs := by
 rcases h with (h | ⟨o, h⟩) | h
 · exact .inl (.inl (e _ _ h))
 · exact .inl (.inr ⟨o, e _ _ h⟩)
 · exact .inr h
def Itv (xs : List V) : It := ⟨fun i _ => i < xs.length, fun i H x H' => H' = H ∧ xs[i]? = some x, fun i _ => xs.length ≤ i⟩
theorem zdM {P : Program} {w : World} {K : PySem.W.Frag} {tg : Expr} (it : Addr) (x : Str) (t : Tok) : Turn P w K tg (Itv (x.cps.toList.map fun c => V.str ⟨#[c]⟩)) [it] it (fun i h => h.IsStrIter it "str_ascii_iterator" x t i) where
 mem := by simp
 obj := fun i h st b hb => by
  have e : b = it := by simpa using hb
  subst e
  obtain ⟨o, e, c, d⟩ := st
  exact ⟨o, e, fun v z => by rw [d] at z; cases z⟩
 keep := fun i h h' st k => let ⟨o, ho, r⟩ := st; ⟨o, k it (by simp) o ho, r⟩
 item := by
  intro X hP hw hK hc i pins s σ H E I hf st hg
  subst hP hw hK
  have hg : i < (x.cps.toList.map fun c => V.str ⟨#[c]⟩).length := hg
  rw [List.length_map, Array.length_toList] at hg
  obtain ⟨f0, f1, f2, f3, f4, f5⟩ := hf it (by simp)
  refine wpAny_pyNext_ascii_item st (c := x.cps[i]) (by simp [hg]) fun h' st' sb => ?_
  have I1 : Inv X pins σ H { s with heap := h', toks := s.toks + 1 } := I.turned (fun b o hb e => (sb.2 b hb).trans e) f0 f1 f3 f4 f5
  obtain ⟨o, e, c, d⟩ := id st'
  exact ⟨_, rfl, zhK (s := { s with heap := h', toks := s.toks + 1 }) e c d (by decide) ⟨.str ⟨#[x.cps[i]]⟩, H, I1, ⟨_, rfl⟩, ⟨rfl, by rw [List.getElem?_map, Array.getElem?_toList, Array.getElem?_eq_getElem hg]; rfl⟩, st', fun b hb => (hf b hb).1⟩⟩
 done := by
  intro X hP hw hK hc i pins s σ H E I hf st hg
  subst hP hw hK
  have hg : (x.cps.toList.map fun c => V.str ⟨#[c]⟩).length ≤ i := hg
  rw [List.length_map, Array.length_toList] at hg
  obtain ⟨f0, f1, f2, f3, f4, f5⟩ := hf it (by simp)
  exact wpAny_pyNext_ascii_end (I.ok.hd hc) st (by simpa using hg) fun h' eb => ⟨rfl, I.turned (t' := s.toks) (fun b o hb e => eb b o hb e) f0 f1 f3 f4 f5⟩
 self := fun _ _ _ _ _ st h => wpAny_pyIter_striter_ascii st h
theorem zep {P : Program} {w : World} {K : PySem.W.Frag} {tg : Expr} (it : Addr) (x : Str) (t : Tok) : Turn P w K tg (Itv (x.cps.toList.map fun c => V.str ⟨#[c]⟩)) [it] it (fun i h => h.IsStrIter it "str_iterator" x t i) where
 mem := by simp
 obj := fun i h st b hb => by
  have e : b = it := by simpa using hb
  subst e
  obtain ⟨o, e, c, d⟩ := st
  exact ⟨o, e, fun v z => by rw [d] at z; cases z⟩
 keep := fun i h h' st k => let ⟨o, ho, r⟩ := st; ⟨o, k it (by simp) o ho, r⟩
 item := by
  intro X hP hw hK hc i pins s σ H E I hf st hg
  subst hP hw hK
  have hg : i < (x.cps.toList.map fun c => V.str ⟨#[c]⟩).length := hg
  rw [List.length_map, Array.length_toList] at hg
  obtain ⟨f0, f1, f2, f3, f4, f5⟩ := hf it (by simp)
  refine wpAny_pyNext_wide_item st (c := x.cps[i]) (by simp [hg]) fun h' st' sb => ?_
  have I1 : Inv X pins σ H { s with heap := h', toks := s.toks + 1 } := I.turned (fun b o hb e => (sb.2 b hb).trans e) f0 f1 f3 f4 f5
  obtain ⟨o, e, c, d⟩ := id st'
  exact ⟨_, rfl, zhK (s := { s with heap := h', toks := s.toks + 1 }) e c d (by decide) ⟨.str ⟨#[x.cps[i]]⟩, H, I1, ⟨_, rfl⟩, ⟨rfl, by rw [List.getElem?_map, Array.getElem?_toList, Array.getElem?_eq_getElem hg]; rfl⟩, st', fun b hb => (hf b hb).1⟩⟩
 done := by
  intro X hP hw hK hc i pins s σ H E I hf st hg
  subst hP hw hK
  have hg : (x.cps.toList.map fun c => V.str ⟨#[c]⟩).length ≤ i := hg
  rw [List.length_map, Array.length_toList] at hg
  obtain ⟨f0, f1, f2, f3, f4, f5⟩ := hf it (by simp)
  exact wpAny_pyNext_wide_end (I.ok.hd hc) st (by simpa using hg) fun h' eb => ⟨rfl, I.turned (t' := s.toks) (fun b o hb e => eb b o hb e) f0 f1 f3 f4 f5⟩
 self := fun _ _ _ _ _ st h => wpAny_pyIter_striter_wide st h
section
variable {X : Cx} {tg : Expr}
def signs (x : Str) : List V := x.cps.toList.map fun c => V.str ⟨#[c]⟩
def iStr (tl : TE) : TI := fun σ H R => tl σ H fun v H1 => ∃ x, v = .str x ∧ R (Itv (signs x)) H1
theorem ziJ {l : Expr} {tl : TE} (hl : PE X l tl) : PI X tg l (iStr tl) := by
 intro pins s σ H R I h
 refine thn (hl pins s σ H _ I h) fun v s1 ⟨y, H1, I1, r1, q1⟩ => ?_
 obtain ⟨x, e, q⟩ := q1
 subst e
 obtain ⟨t, rfl⟩ := r1
 cases ha : x.cps.all (· < 128)
 · refine wpAny_pyIter_wide ha ?_
   refine ⟨s1.heap.objs.size, [s1.heap.objs.size], _, _, H1, rfl, I1.kept (t' := s1.toks) fun b o e => Heap.get?_push_of_some _ e, zep _ x t, ⟨_, Heap.get?_push_size _ rfl, rfl, rfl⟩, fun b hb => ?_, q⟩
   have e : b = s1.heap.objs.size := by simpa using hb
   subst e
   exact I1.fpOk (Nat.le_refl _) (I1.hok.fresh (Nat.le_refl _))
 · refine wpAny_pyIter_ascii ha ?_
   refine ⟨s1.heap.objs.size, [s1.heap.objs.size], _, _, H1, rfl, I1.kept (t' := s1.toks) fun b o e => Heap.get?_push_of_some _ e, zdM _ x t, ⟨_, Heap.get?_push_size _ rfl, rfl, rfl⟩, fun b hb => ?_, q⟩
   have e : b = s1.heap.objs.size := by simpa using hb
   subst e
   exact I1.fpOk (Nat.le_refl _) (I1.hok.fresh (Nat.le_refl _))
theorem zeE : OpR X (compareOp .LtE) (fun x y H Q => ∃ i j, x = .str i ∧ y = .str j ∧ Q (.bl (!decide (j.cps.toList < i.cps.toList))) H) := by
 intro pins s σ H x y v u Q I rx ry h
 obtain ⟨i, j, rfl, rfl, q⟩ := h
 obtain ⟨t, rfl⟩ := rx
 obtain ⟨t', rfl⟩ := ry
 exact PySem.P.le_str (zaH I q rfl)
theorem zcE (hc : X.calm = true) : zdw X (.builtin "all") (fun xs H Q => ∃ (a : Addr) (bs : List Bool), xs = [.ref a] ∧ SqL X.K H a (bs.map V.bl) ∧ Q (.bl (bs.all id)) H) := by
 intro pins s σ H xs us Q I r h
 obtain ⟨a, bs, rfl, hq, q⟩ := h
 obtain ⟨u, rfl, ru⟩ := zeo r
 cases ru
 obtain ⟨its, rv, p, hzz⟩ := I.list hq
 have ll := rv.length
 rw [List.length_map] at ll
 refine call_all_walk (wpAny_pyIter_list p.isList ?_)
 obtain ⟨o, ho, _⟩ := id p.isList
 have lt := Heap.lt_size ho
 refine ⟨s.heap.objs.size, _, _, _, _, _, fun i => bs.getD i false, rfl, Walks.list (A := X.A.in1) (I.ok.hd hc) s.heap.objs.size a (Nat.ne_of_lt lt) its.toArray, ⟨⟨_, Heap.get?_push_size _ rfl, rfl, rfl⟩, p.isList.at fun o' e => Heap.get?_push_of_some _ e⟩, ?_, fun g t' k => ?_⟩
 · intro i v s' Q' E' hv q'
   have hi : its[i]? = some v := by simpa using hv
   have hl : i < its.length := (List.getElem?_eq_some_iff.mp hi).1
   have e : (bs.map V.bl)[i]? = some (.bl (bs.getD i false)) := by
    rw [List.getElem?_map, List.getElem?_eq_getElem (by omega), List.getD_eq_getElem?_getD, List.getElem?_eq_getElem (by omega)]
    rfl
   obtain ⟨u, h1, h2⟩ := Vals.get rv e
   rw [hi] at h1
   cases h1
   cases h2
   exact wpAny_truthy_bool q'
 · refine ⟨.bl (bs.all id), H, I.kept (fun b o' e => k b o' ?_ (Heap.get?_push_of_some _ e)), ?_, q⟩
   · intro z
     exact absurd (List.mem_singleton.mp z) (Nat.ne_of_lt (Heap.lt_size e))
   · show Value.bool _ = Value.bool _
     congr 1
     rw [List.size_toArray, ← ll]
     clear rv ll hq q p ho lt hzz
     induction bs with
     | nil => rfl
     | cons b r ih =>
      rw [List.length_cons, List.range_succ_eq_map, List.all_cons, List.all_map, List.all_cons, ← ih]
      rfl
end
theorem ziP {xs : List V} {p : Addr} {g : TG} {tc : TT} {te : TE} {σ : St} {H : Hp} {Q : VK} {js : Cap} (Pv : Nat → St → List V → Hp → Prop) (h0 : Pv 0 (inn js σ) [] (upd H p (.lst [])))
 (hl : ∀ i σ ys H, i ≤ xs.length → Pv i σ ys H → H p = some (.lst ys) ∧ ys.length < sizeLine)
 (hs : ∀ (i : Nat) x σ ys H (N : St → List V → Hp → Prop), xs[i]? = some x → Pv i σ ys H → (∀ σ' ys' H', Pv (i + 1) σ' ys' H' → N σ' ys' H') → zdL p g tc te ys x σ H N)
 (hd : ∀ σ ys H, Pv xs.length σ ys H → Q (.ref p) H) : zcG (Itv xs) p js g tc te σ H Q :=
 zeL (n := xs.length) (J := Itv xs) (js := js) (σ := σ) (H := H) (p := p) (Q := Q) (g := g) (tc := tc) (te := te) Pv h0 hl
  (fun i σ ys H hi pv => hi) (fun σ ys H pv => Nat.le_refl _)
  (fun i x σ ys H H' N hi y pv hN => by
   obtain ⟨e, y⟩ := y
   subst e
   exact hs i x σ ys _ N y pv hN) hd
section
variable {prog : Program} {w : World} {A : Around} {E : Value → Shared → Prop} {R : Result → Shared → Prop} {s : Shared}
end
section
variable {X : Cx} {tg iter kx vx : Expr} {ifs : List Expr} {wi : TI} {js : Cap} {g : TG} {tc : TT} {tk tv : TE} {N' : List Str} {scope : Scope} {pos : Pos}
end
section
variable {prog : Program} {w : World} {A : Around} {E : Value → Shared → Prop} {s : Shared}
theorem zfz {ti tp : Addr} {k : Nat} {vs : Array Value} {v : Value} {Q : Value → Shared → Prop} (hi : s.heap.IsTupleIter ti tp k) (ht : s.heap.IsTuple tp vs) (hv : vs[k]? = some v)
 (fin : ∀ g, g.IsTupleIter ti tp (k + 1) → Heap.SameBut ti s.heap g → Q v { s with heap := g }) : wpAny (model prog w) A (Builtin.SmallTypes.nextOf (.ref ti)) Q E s := by
 obtain ⟨oi, e1, c1, d1⟩ := id hi
 obtain ⟨ot, e2, _, nt, d2⟩ := ht
 unfold Builtin.SmallTypes.nextOf
 refine wpAny_bind (wpAny_callSpecial?_slot (name := Str.ofString "__next__") hi.typeIs PySem.F.slot_tuple_iterator_next (wpAny_call_entry PySem.F.slot_tuple_iterator_next hi.typeIs PySem.F.entry_tuple_iterator_next ?_ (PySem.F.args_tuple_iterator_next_1 _)))
 show wpAny _ _ (field (.ref ti) 0 >>= _) _ _ s
 refine wpAny_bind (wpAny_field e1 d1 (x := .ref tp) rfl ?_)
 show wpAny _ _ (if (Value.ref tp == Value.none) = true then _ else _) _ _ s
 rw [if_neg (show ¬ ((Value.ref tp == Value.none) = true) from Bool.false_ne_true)]
 show wpAny _ _ (field (.ref ti) 1 >>= _) _ _ s
 refine wpAny_bind (wpAny_field e1 d1 (x := .int k 0) rfl ?_)
 show wpAny _ _ (seqItems? (.ref tp) >>= _) _ _ s
 refine wpAny_bind (wpAny_seqItems e2 d2 ?_)
 simp only [Int.toNat_natCast, hv]
 refine wpAny_bind (wpAny_setField e1 d1 (by simp) (wpAny_pure ⟨v, rfl, wpAny_pure (fin _ ?_ (Heap.SameBut.update ..))⟩))
 exact ⟨_, Heap.get?_update_self _ e1 (Obj.isFreed_of_fields (Obj.data_mapFields d1 _)), (Obj.cls_mapFields ..).trans c1, by rw [Obj.data_mapFields d1]; simp [rawInt]⟩
theorem ziN {ti tp : Addr} {k : Nat} {vs : Array Value} {Q : Value → Shared → Prop} (hh : A.handled = none) (hi : s.heap.IsTupleIter ti tp k) (ht : s.heap.IsTuple tp vs) (hv : vs[k]? = none)
 (fin : ∀ g e, Heap.ExtBut ti s.heap g → (∃ o, g.get? e = some o ∧ o.cls = .type "StopIteration") → E (.ref e) { s with heap := g }) : wpAny (model prog w) A (Builtin.SmallTypes.nextOf (.ref ti)) Q E s := by
 obtain ⟨oi, e1, c1, d1⟩ := id hi
 obtain ⟨ot, e2, _, nt, d2⟩ := ht
 unfold Builtin.SmallTypes.nextOf
 refine wpAny_bind (wpAny_callSpecial?_slot (name := Str.ofString "__next__") hi.typeIs PySem.F.slot_tuple_iterator_next (wpAny_call_entry PySem.F.slot_tuple_iterator_next hi.typeIs PySem.F.entry_tuple_iterator_next ?_ (PySem.F.args_tuple_iterator_next_1 _)))
 show wpAny _ _ (field (.ref ti) 0 >>= _) _ _ s
 refine wpAny_bind (wpAny_field e1 d1 (x := .ref tp) rfl ?_)
 show wpAny _ _ (if (Value.ref tp == Value.none) = true then _ else _) _ _ s
 rw [if_neg (show ¬ ((Value.ref tp == Value.none) = true) from Bool.false_ne_true)]
 show wpAny _ _ (field (.ref ti) 1 >>= _) _ _ s
 refine wpAny_bind (wpAny_field e1 d1 (x := .int k 0) rfl ?_)
 show wpAny _ _ (seqItems? (.ref tp) >>= _) _ _ s
 refine wpAny_bind (wpAny_seqItems e2 d2 ?_)
 simp only [Int.toNat_natCast, hv]
 refine wpAny_bind (wpAny_rule (wpAny_bind (wpAny_setField e1 d1 (by simp) ?_)))
 show wpAny _ _ (newExc (.type "StopIteration") [] >>= _) _ _ _
 refine wpAny_bind ?_
 simp only [newExc, newTuple]
 refine wpAny_bind (wpAny_newObj_type ?_ (by size_fits))
 refine wpAny_bind (m := firstArgMember _ _) (wpAny_of_eq (a := Value.none) (by first | rfl | (simp only [firstArgMember]; rfl)) ?_)
 refine wpAny_newObj_type ?_ (by size_fits)
 simp only [raiseNew]
 refine wpAny_bind (wpAny_handled ?_)
 first | rw [show A.in1.handled = none from hh] | rw [hh]
 refine wpAny_bind (wpAny_pure (wpAny_throw ?_))
 exact fin _ _ (((Heap.SameBut.update ..).extBut.push _).push _) ⟨_, Heap.get?_push_size _ rfl, rfl⟩
structure ZA (z a b i j : Addr) : Prop where
 az : a ≠ z
 bz : b ≠ z
 iz : i ≠ z
 jz : j ≠ z
 ab : a ≠ b
 ai : a ≠ i
 aj : a ≠ j
 bi : b ≠ i
 bj : b ≠ j
 ij : i ≠ j
theorem zbE {h h' : Heap} {t c : Addr} {vs : Array Value} (x : h.IsTuple t vs) (hs : Heap.SameBut c h h') (n : t ≠ c) : h'.IsTuple t vs := x.extBut hs.extBut n
theorem ziX {z a b i j t1 t2 : Addr} {k1 k2 : Nat} {xs ys : Array Value} {x y p q : Value} {Q : Value → Shared → Prop} (D : ZA z a b i j) (n1 : t1 ≠ z ∧ t1 ≠ b ∧ t1 ≠ i ∧ t1 ≠ j) (n2 : t2 ≠ z ∧ t2 ≠ b ∧ t2 ≠ i ∧ t2 ≠ j)
 (hz : IsZip s.heap z a b .none) (ha : IsPair s.heap a (.ref i) (.ref j)) (hb : IsPair s.heap b p q) (h1 : s.heap.IsTupleIter i t1 k1) (h2 : s.heap.IsTupleIter j t2 k2) (g1 : s.heap.IsTuple t1 xs) (g2 : s.heap.IsTuple t2 ys) (hx : xs[k1]? = some x) (hy : ys[k2]? = some y)
 (fin : ∀ g, IsZip g z a b (rawInt s.heap.objs.size) → IsPair g b x y → g.IsTupleIter i t1 (k1 + 1) → g.IsTupleIter j t2 (k2 + 1) → IsPair g s.heap.objs.size x y →
  (∀ c o, c ≠ z → c ≠ b → c ≠ i → c ≠ j → s.heap.get? c = some o → g.get? c = some o) → Q (.ref s.heap.objs.size) { s with heap := g }) :
 wpAny (model prog w) A (Builtin.«zip.__next__» ⟨[.ref z], []⟩) (fun r s' => ∃ v, r = .done (.ret v) ∧ Q v s') E s := by
 show wpAny _ _ (field (.ref z) 2 >>= _) _ _ _
 refine wpAny_bind (wpAny_field hz rfl (x := .bool false) rfl ?_)
 show wpAny _ _ (field (.ref z) 3 >>= _) _ _ _
 refine wpAny_bind (wpAny_field hz rfl (x := .ref a) rfl ?_)
 refine wpAny_bind (wpAny_seqItems ha rfl ?_)
 show wpAny _ _ (Builtin.SmallTypes.ownedTupleIsFree (.ref z) >>= _) _ _ _
 refine wpAny_bind ?_
 unfold Builtin.SmallTypes.ownedTupleIsFree
 refine wpAny_bind (wpAny_field hz rfl (x := .none) rfl (wpAny_pure ?_))
 simp only [if_true]
 refine wpAny_bind (wpAny_rule ?_)
 refine wpAny_bind (wpAny_field hz rfl (x := .ref b) rfl ?_)
 refine wpAny_bind (wpAny_setField_rec hz (by simp) fun w1 z1 m1 => ?_)
 replace z1 : IsZip w1 z a b .ellipsis := z1
 refine wpAny_bind ?_
 simp only [List.zipIdx_cons, List.zipIdx_nil, List.forIn_cons, List.forIn_nil]
 refine wpAny_bind (wpAny_bind (wpAny_onRaise ?_))
 show wpAny _ _ (Builtin.SmallTypes.nextOf (.ref i) >>= _) _ _ _
 refine wpAny_bind (zfz (h1.extBut m1.extBut D.iz) (zbE g1 m1 n1.1) hx fun w2 i2 m2 => wpAny_pure ?_)
 have b2 : IsPair w2 b p q := m2.extBut _ _ D.bi (m1.extBut _ _ D.bz hb)
 refine wpAny_bind (wpAny_seqItems b2 rfl ?_)
 refine wpAny_bind (wpAny_updateSeq_pair b2 fun w3 b3 m3 => ?_)
 replace b3 : IsPair w3 b x q := b3
 refine wpAny_bind (wpAny_letGo (wpAny_pure ?_))
 refine wpAny_bind (wpAny_bind (wpAny_onRaise ?_))
 show wpAny _ _ (Builtin.SmallTypes.nextOf (.ref j) >>= _) _ _ _
 refine wpAny_bind (zfz (((h2.extBut m1.extBut D.jz).extBut m2.extBut D.ij.symm).extBut m3.extBut D.bj.symm) (zbE (zbE (zbE g2 m1 n2.1) m2 n2.2.2.1) m3 n2.2.1) hy fun w4 j4 m4 => wpAny_pure ?_)
 have b4 : IsPair w4 b x q := m4.extBut _ _ D.bj b3
 refine wpAny_bind (wpAny_seqItems b4 rfl ?_)
 refine wpAny_bind (wpAny_updateSeq_pair b4 fun w5 b5 m5 => ?_)
 replace b5 : IsPair w5 b x y := b5
 refine wpAny_bind (wpAny_letGo (wpAny_pure (wpAny_pure ?_)))
 refine wpAny_bind (wpAny_seqItems b5 rfl ?_)
 refine wpAny_bind (wpAny_newTuple ?_)
 have sz : w5.objs.size = s.heap.objs.size := by rw [m5.1, m4.1, m3.1, m2.1, m1.1]
 have z5 : IsZip w5 z a b .ellipsis := m5.extBut _ _ D.bz.symm (m4.extBut _ _ D.jz.symm (m3.extBut _ _ D.bz.symm (m2.extBut _ _ D.iz.symm z1)))
 have k5 : ∀ c o, c ≠ z → c ≠ b → c ≠ i → c ≠ j → s.heap.get? c = some o → w5.get? c = some o := fun c o c1 c2 c3 c4 e =>
  m5.extBut _ _ c2 (m4.extBut _ _ c4 (m3.extBut _ _ c2 (m2.extBut _ _ c3 (m1.extBut _ _ c1 e))))
 have i5 : w5.IsTupleIter i t1 (k1 + 1) := ((i2.extBut m3.extBut D.bi.symm).extBut m4.extBut D.ij).extBut m5.extBut D.bi.symm
 have j5 : w5.IsTupleIter j t2 (k2 + 1) := j4.extBut m5.extBut D.bj.symm
 have zlt : z < w5.objs.size := Heap.lt_size z5
 show wpAny _ _ (Builtin.SmallTypes.ownedTupleHandOut (.ref z) (.ref w5.objs.size) >>= _) _ _ _
 refine wpAny_bind ?_
 unfold Builtin.SmallTypes.ownedTupleHandOut
 have z6 : IsZip (w5.push { cls := .type "tuple", data := .seq #[x, y] }) z a b .ellipsis := Heap.get?_push_of_some _ z5
 refine wpAny_bind (wpAny_setField_rec z6 (by simp) fun w7 z7 m7 => ?_)
 replace z7 : IsZip w7 z a b (rawInt w5.objs.size) := z7
 refine wpAny_setField_rec z7 (by simp) fun w8 z8 m8 => ?_
 replace z8 : IsZip w8 z a b (rawInt w5.objs.size) := z8
 have up : ∀ c o, c ≠ z → w5.get? c = some o → w8.get? c = some o := fun c o c1 e => m8.extBut _ _ c1 (m7.extBut _ _ c1 (Heap.get?_push_of_some _ e))
 have t8 : IsPair w8 w5.objs.size x y := m8.extBut _ _ (Nat.ne_of_gt zlt) (m7.extBut _ _ (Nat.ne_of_gt zlt) (Heap.get?_push_size _ rfl))
 rw [sz] at z8 t8
 refine wpAny_pure ⟨_, rfl, ?_⟩
 show Q (.ref w5.objs.size) _
 rw [sz]
 obtain ⟨oi, ei, ri⟩ := i5
 obtain ⟨oj, ej, rj⟩ := j5
 exact fin w8 z8 (up _ _ D.bz b5) ⟨oi, up _ oi D.iz ei, ri⟩ ⟨oj, up _ oj D.jz ej, rj⟩ t8 fun c o c1 c2 c3 c4 e => up c o c1 (k5 c o c1 c2 c3 c4 e)
theorem zjp {z a b i j t1 t2 : Addr} {k1 k2 : Nat} {xs ys : Array Value} {p q : Value} {Q : Fin → Shared → Prop} (hh : A.handled = none) (D : ZA z a b i j) (n1 : t1 ≠ z ∧ t1 ≠ b ∧ t1 ≠ i ∧ t1 ≠ j) (n2 : t2 ≠ z ∧ t2 ≠ b ∧ t2 ≠ i ∧ t2 ≠ j)
 (hz : IsZip s.heap z a b .none) (ha : IsPair s.heap a (.ref i) (.ref j)) (hb : IsPair s.heap b p q) (h1 : s.heap.IsTupleIter i t1 k1) (h2 : s.heap.IsTupleIter j t2 k2) (g1 : s.heap.IsTuple t1 xs) (g2 : s.heap.IsTuple t2 ys) (hend : xs[k1]? = none ∨ ys[k2]? = none)
 (fin : ∀ g e, (∀ c o, c ≠ z → c ≠ b → c ≠ i → c ≠ j → s.heap.get? c = some o → g.get? c = some o) → (∃ o, g.get? e = some o ∧ o.cls = .type "StopIteration") → E (.ref e) { s with heap := g }) :
 wpAny (model prog w) A (Builtin.«zip.__next__» ⟨[.ref z], []⟩) Q E s := by
 show wpAny _ _ (field (.ref z) 2 >>= _) _ _ _
 refine wpAny_bind (wpAny_field hz rfl (x := .bool false) rfl ?_)
 show wpAny _ _ (field (.ref z) 3 >>= _) _ _ _
 refine wpAny_bind (wpAny_field hz rfl (x := .ref a) rfl ?_)
 refine wpAny_bind (wpAny_seqItems ha rfl ?_)
 show wpAny _ _ (Builtin.SmallTypes.ownedTupleIsFree (.ref z) >>= _) _ _ _
 refine wpAny_bind ?_
 unfold Builtin.SmallTypes.ownedTupleIsFree
 refine wpAny_bind (wpAny_field hz rfl (x := .none) rfl (wpAny_pure ?_))
 simp only [if_true]
 refine wpAny_bind (wpAny_rule ?_)
 refine wpAny_bind (wpAny_field hz rfl (x := .ref b) rfl ?_)
 refine wpAny_bind (wpAny_setField_rec hz (by simp) fun w1 z1 m1 => ?_)
 replace z1 : IsZip w1 z a b .ellipsis := z1
 refine wpAny_bind ?_
 simp only [List.zipIdx_cons, List.zipIdx_nil, List.forIn_cons, List.forIn_nil]
 refine wpAny_bind (wpAny_bind (wpAny_onRaise ?_))
 show wpAny _ _ (Builtin.SmallTypes.nextOf (.ref i) >>= _) _ _ _
 cases hx : xs[k1]? with
 | none =>
  refine wpAny_bind (ziN hh (h1.extBut m1.extBut D.iz) (zbE g1 m1 n1.1) hx fun w2 e m2 he => ?_)
  obtain ⟨oe, e1, e2⟩ := he
  have z2 : IsZip w2 z a b .ellipsis := m2 _ _ D.iz.symm z1
  have ez : e ≠ z := fun u => by subst u; rw [z2] at e1; cases e1; simp at e2
  exact wpAny_setField_rec z2 (by simp) fun w3 _ m3 => fin w3 e (fun c o c1 _ c3 _ u => m3.extBut _ _ c1 (m2 _ _ c3 (m1.extBut _ _ c1 u))) ⟨oe, m3.extBut _ _ ez e1, e2⟩
 | some x =>
  have hy : ys[k2]? = none := by
   rcases hend with u | u
   · rw [hx] at u; cases u
   · exact u
  refine wpAny_bind (zfz (h1.extBut m1.extBut D.iz) (zbE g1 m1 n1.1) hx fun w2 i2 m2 => wpAny_pure ?_)
  have b2 : IsPair w2 b p q := m2.extBut _ _ D.bi (m1.extBut _ _ D.bz hb)
  refine wpAny_bind (wpAny_seqItems b2 rfl ?_)
  refine wpAny_bind (wpAny_updateSeq_pair b2 fun w3 b3 m3 => ?_)
  refine wpAny_bind (wpAny_letGo (wpAny_pure ?_))
  refine wpAny_bind (wpAny_bind (wpAny_onRaise ?_))
  show wpAny _ _ (Builtin.SmallTypes.nextOf (.ref j) >>= _) _ _ _
  refine wpAny_bind (ziN hh (((h2.extBut m1.extBut D.jz).extBut m2.extBut D.ij.symm).extBut m3.extBut D.bj.symm) (zbE (zbE (zbE g2 m1 n2.1) m2 n2.2.2.1) m3 n2.2.1) hy fun w4 e m4 he => ?_)
  obtain ⟨oe, e1, e2⟩ := he
  have z4 : IsZip w4 z a b .ellipsis := m4 _ _ D.jz.symm (m3.extBut _ _ D.bz.symm (m2.extBut _ _ D.iz.symm z1))
  have ez : e ≠ z := fun u => by subst u; rw [z4] at e1; cases e1; simp at e2
  exact wpAny_setField_rec z4 (by simp) fun w5 _ m5 => fin w5 e (fun c o c1 c2 c3 c4 u => m5.extBut _ _ c1 (m4 _ _ c4 (m3.extBut _ _ c2 (m2.extBut _ _ c3 (m1.extBut _ _ c1 u))))) ⟨oe, m5.extBut _ _ ez e1, e2⟩
end
section
variable {X : Cx} {pins : List (Addr × Obj)} {σ : St} {H : Hp} {s : Shared} {h' : Heap}
theorem Inv.newTup {T : Addr} {x y : V} {t' : Nat} (I : Inv X pins σ H s) (ch : List Addr) (hch : ∀ c ∈ ch, FpOk X pins H c) (keep : ∀ c o, c ∉ ch → s.heap.get? c = some o → h'.get? c = some o) (hT : s.heap.objs.size ≤ T)
 (tup : ∃ its : List Value, Vals [x, y] its ∧ IsTupP h' T its.toArray) : Inv X pins σ (upd H T (.tup [x, y])) { s with heap := h', toks := t' } := by
 have hn : H T = none := I.hok.fresh hT
 have neT : ∀ c o, s.heap.get? c = some o → c ≠ T := fun c o e => Nat.ne_of_lt (Nat.lt_of_lt_of_le (Heap.lt_size e) hT)
 have off : ∀ c u, H c = some u → c ∉ ch := fun c u e z => by rw [(hch c z).1] at e; cases e
 refine I.step (g' := s.gens) (d' := s.drawn) (ch := ch) (fun c hc => ⟨(hch c hc).2.2.2.1, (hch c hc).2.1, (hch c hc).2.2.2.2.1, (hch c hc).2.2.2.2.2⟩) (fun c o _ _ hc e _ => keep c o hc e) (fun c o _ _ hc e _ => ⟨o.slots, keep c o hc e⟩)
  (fun c o _ e n => by rw [zal (neT c o e)]; exact n) (fun c o hc e => ⟨o, keep c o hc e⟩) (fun c xs e => by rw [zal (zao e hn)]; exact e) (fun c o u e => by rw [zal (zao e hn)]; exact e)
  (fun c ps e => ⟨#[], by rw [zal (zao e hn), e]; simp⟩) (fun m hm => ?_) (fun c u e => ?_) I.bare
 · obtain ⟨o, es, ep, ho, r⟩ := hm
   exact ⟨o, es, ep, keep _ o (fun z => (hch _ z).2.1 rfl) ho, r⟩
 · by_cases hc : c = T
   · subst hc
     rw [zad] at e
     cases e
     obtain ⟨its, r, p⟩ := tup
     exact ⟨by show 2 ≤ sizeLine; decide, its, r, p⟩
   · rw [zal hc] at e
     refine (I.hok c u e).stay (fun d v hd q => keep d v ?_ q) (fun d q => by rw [zal (zao q hn)]; exact q) fun d xs q => by rw [zal (zao q hn)]; exact q
     rcases hd with z | z
     · rw [z]; exact off c u e
     · exact off d _ z
theorem Inv.turnedN {t' : Nat} (I : Inv X pins σ H s) (ch : List Addr) (hch : ∀ c ∈ ch, FpOk X pins H c) (keep : ∀ c o, c ∉ ch → s.heap.get? c = some o → h'.get? c = some o) : Inv X pins σ H { s with heap := h', toks := t' } := by
 have off : ∀ c u, H c = some u → c ∉ ch := fun c u e z => by rw [(hch c z).1] at e; cases e
 refine I.step (g' := s.gens) (d' := s.drawn) (ch := ch) (fun c hc => ⟨(hch c hc).2.2.2.1, (hch c hc).2.1, (hch c hc).2.2.2.2.1, (hch c hc).2.2.2.2.2⟩) (fun c o _ _ hc e _ => keep c o hc e) (fun c o _ _ hc e _ => ⟨o.slots, keep c o hc e⟩)
  (fun c o _ e n => n) (fun c o hc e => ⟨o, keep c o hc e⟩) (fun c xs e => e) (fun c o u e => e) (fun c ps e => ⟨#[], by rw [e]; simp⟩) (fun m hm => ?_) (fun c u e => ?_) I.bare
 · obtain ⟨o, es, ep, ho, r⟩ := hm
   exact ⟨o, es, ep, keep _ o (fun z => (hch _ z).2.1 rfl) ho, r⟩
 · refine (I.hok c u e).stay (fun d v hd q => keep d v ?_ q) (fun _ q => q) fun _ _ q => q
   rcases hd with z | z
   · rw [z]; exact off c u e
   · exact off d _ z
theorem zbb {t c : Addr} {xs : List V} (I : Inv X pins σ H s) (h : SqT X.K H t xs) (f : FpOk X pins H c) : t ≠ c := by
 intro e
 subst e
 rcases h with (h | ⟨o, h⟩) | ⟨o, its, n, hk, _⟩
 · rw [f.1] at h; cases h
 · rw [f.1] at h; cases h
 · have eb := I.ok.mod.kin t o hk
   rcases f.2.2.2.1 with z | z
   · exact I.ok.noex t o eb z
   · exact absurd (Nat.lt_of_lt_of_le (Heap.lt_size eb) (Nat.le_trans I.ok.bsz z)) (Nat.lt_irrefl _)
end
def Itz (K : PySem.W.Frag) (t1 t2 : Addr) : It :=
 ⟨fun k H => ∃ (xs ys : List V) (x y : V), SqT K H t1 xs ∧ SqT K H t2 ys ∧ xs[k]? = some x ∧ ys[k]? = some y,
  fun k H v H' => ∃ p, v = .ref p ∧ H p = none ∧ ∀ (xs ys : List V) (x y : V), SqT K H t1 xs → SqT K H t2 ys → xs[k]? = some x → ys[k]? = some y → H' = upd H p (.tup [x, y]),
  fun k H => ∃ (xs ys : List V), SqT K H t1 xs ∧ SqT K H t2 ys ∧ (xs.length ≤ k ∨ ys.length ≤ k)⟩
theorem zhY {P : Program} {w : World} {K : PySem.W.Frag} {es : List Expr} {kk : Nat} {pos : Pos} (t1 t2 z a b i j : Addr) (D : ZA z a b i j) :
 Turn P w K (.Tuple es kk pos) (Itz K t1 t2) [z, a, b, i, j] z (fun k h => IsZip h z a b .none ∧ IsPair h a (.ref i) (.ref j) ∧ (∃ p q, IsPair h b p q) ∧ h.IsTupleIter i t1 k ∧ h.IsTupleIter j t2 k) where
 mem := by simp
 obj := fun k h st c hc => by
  obtain ⟨hz, ha, ⟨p, q, hb⟩, ⟨oi, ei, _, di⟩, ⟨oj, ej, _, dj⟩⟩ := st
  simp only [List.mem_cons, List.not_mem_nil, or_false] at hc
  rcases hc with rfl | rfl | rfl | rfl | rfl
  · exact ⟨_, hz, fun v e => by cases e⟩
  · exact ⟨_, ha, fun v e => by cases e⟩
  · exact ⟨_, hb, fun v e => by cases e⟩
  · exact ⟨oi, ei, fun v e => by rw [di] at e; cases e⟩
  · exact ⟨oj, ej, fun v e => by rw [dj] at e; cases e⟩
 keep := fun k h h' st kp => by
  obtain ⟨hz, ha, ⟨p, q, hb⟩, ⟨oi, ei, ri⟩, ⟨oj, ej, rj⟩⟩ := st
  exact ⟨kp z (by simp) _ hz, kp a (by simp) _ ha, ⟨p, q, kp b (by simp) _ hb⟩, ⟨oi, kp i (by simp) _ ei, ri⟩, ⟨oj, kp j (by simp) _ ej, rj⟩⟩
 item := by
  intro X hP hw hK hc k pins s σ H E I hf st hg
  subst hP hw hK
  obtain ⟨xs, ys, x, y, q1, q2, hx, hy⟩ := hg
  obtain ⟨hz, ha, ⟨p, q, hb⟩, h1, h2⟩ := st
  obtain ⟨its1, r1, g1, _⟩ := I.tuple q1
  obtain ⟨its2, r2, g2, _⟩ := I.tuple q2
  obtain ⟨u1, hu1, v1⟩ := r1.get hx
  obtain ⟨u2, hu2, v2⟩ := r2.get hy
  have fz := hf z (by simp)
  have fb := hf b (by simp)
  have fi := hf i (by simp)
  have fj := hf j (by simp)
  have hT : s.TypeIs (.ref z) "zip" := ⟨_, hz, rfl⟩
  unfold pyNext
  refine wpAny_bind (wpAny_attempt (wpAny_callSpecial?_slot (name := Str.ofString "__next__") hT PySem.F.slot_zip_next (wpAny_call_entry PySem.F.slot_zip_next hT PySem.F.entry_zip_next
   (ziX D ⟨zbb I q1 fz, zbb I q1 fb, zbb I q1 fi, zbb I q1 fj⟩ ⟨zbb I q2 fz, zbb I q2 fb, zbb I q2 fi, zbb I q2 fj⟩ hz ha hb h1 h2 g1 g2 (by simpa using hu1) (by simpa using hu2) fun g a1 a2 a3 a4 a5 a6 => wpAny_pure ?_) (PySem.F.args_zip_next_1 _))))
  refine ⟨_, rfl, wpAny_letOwnedTupleGo_zip a1 fun g' z' m' => ?_⟩
  have zT : z ≠ s.heap.objs.size := Nat.ne_of_lt (Heap.lt_size hz)
  have up : ∀ c o, c ≠ z → g.get? c = some o → g'.get? c = some o := fun c o hc e => m'.extBut c o hc e
  have fr : H s.heap.objs.size = none := I.hok.fresh (Nat.le_refl _)
  have I1 : Inv X pins σ (upd H s.heap.objs.size (.tup [x, y])) { s with heap := g' } := by
   refine I.newTup (t' := s.toks) [z, b, i, j] (fun c hc => ?_) (fun c o hc e => ?_) (Nat.le_refl _) ⟨[u1, u2], .cons v1 (.cons v2 .nil), _, up _ _ zT.symm a5, rfl, rfl, _, rfl⟩
   · simp only [List.mem_cons, List.not_mem_nil, or_false] at hc
     rcases hc with rfl | rfl | rfl | rfl
     · exact fz
     · exact fb
     · exact fi
     · exact fj
   · simp only [List.mem_cons, List.not_mem_nil, or_false, not_or] at hc
     exact up c o hc.1 (a6 c o hc.1 hc.2.1 hc.2.2.1 hc.2.2.2 e)
  obtain ⟨oi, ei, ri⟩ := a3
  obtain ⟨oj, ej, rj⟩ := a4
  refine ⟨.ref s.heap.objs.size, _, I1, rfl, ⟨_, rfl, fr, fun xs' ys' x' y' s1 s2 e1 e2 => ?_⟩, ⟨z', up _ _ D.az (a6 a _ D.az D.ab D.ai D.aj ha), ⟨_, _, up _ _ D.bz a2⟩, ⟨oi, up _ _ D.iz ei, ri⟩, ⟨oj, up _ _ D.jz ej, rj⟩⟩, fun c hc => ?_⟩
  · rw [I.tuple_inj s1 q1, hx] at e1
    rw [I.tuple_inj s2 q2, hy] at e2
    cases e1
    cases e2
    rfl
  · have fc := hf c hc
    have : c ≠ s.heap.objs.size := by
     simp only [List.mem_cons, List.not_mem_nil, or_false] at hc
     obtain ⟨oi', ei', _⟩ := h1
     obtain ⟨oj', ej', _⟩ := h2
     rcases hc with rfl | rfl | rfl | rfl | rfl
     · exact zT
     · exact Nat.ne_of_lt (Heap.lt_size ha)
     · exact Nat.ne_of_lt (Heap.lt_size hb)
     · exact Nat.ne_of_lt (Heap.lt_size ei')
     · exact Nat.ne_of_lt (Heap.lt_size ej')
    rw [zal this]
    exact fc.1
 done := by
  intro X hP hw hK hc k pins s σ H E I hf st hg
  subst hP hw hK
  obtain ⟨xs, ys, q1, q2, hend⟩ := hg
  obtain ⟨hz, ha, ⟨p, q, hb⟩, h1, h2⟩ := st
  obtain ⟨its1, r1, g1, _⟩ := I.tuple q1
  obtain ⟨its2, r2, g2, _⟩ := I.tuple q2
  have l1 := r1.length
  have l2 := r2.length
  have fz := hf z (by simp)
  have fb := hf b (by simp)
  have fi := hf i (by simp)
  have fj := hf j (by simp)
  have hT : s.TypeIs (.ref z) "zip" := ⟨_, hz, rfl⟩
  unfold pyNext
  refine wpAny_bind (wpAny_attempt (wpAny_callSpecial?_slot (name := Str.ofString "__next__") hT PySem.F.slot_zip_next (wpAny_call_entry PySem.F.slot_zip_next hT PySem.F.entry_zip_next
   (zjp (I.ok.hd hc) D ⟨zbb I q1 fz, zbb I q1 fb, zbb I q1 fi, zbb I q1 fj⟩ ⟨zbb I q2 fz, zbb I q2 fb, zbb I q2 fi, zbb I q2 fj⟩ hz ha hb h1 h2 g1 g2 ?_ fun g e kp he => ?_) (PySem.F.args_zip_next_1 _))))
  · rcases hend with u | u
    · exact .inl (by simp; omega)
    · exact .inr (by simp; omega)
  · obtain ⟨o, ho, hcl⟩ := he
    refine wpAny_bind (wpAny_isInstance (T := "StopIteration") (b := true) ⟨o, ho, hcl⟩ isSubtype_stop ?_)
    refine wpAny_pure ⟨rfl, I.turnedN (t' := s.toks) [z, b, i, j] (fun c hc => ?_) (fun c o hc e => ?_)⟩
    · simp only [List.mem_cons, List.not_mem_nil, or_false] at hc
      rcases hc with rfl | rfl | rfl | rfl
      · exact fz
      · exact fb
      · exact fi
      · exact fj
    · simp only [List.mem_cons, List.not_mem_nil, or_false, not_or] at hc
      exact kp c o hc.1 hc.2.1 hc.2.2.1 hc.2.2.2 e
 self := fun _ _ _ _ _ st h => wpAny_pyIter_zip st.1 h
abbrev zw1 (h : Heap) (t : Addr) : Heap := h.push { cls := .type "tuple_iterator", data := .fields #[.ref t, .int 0 0] }
abbrev zw2 (h : Heap) (t u : Addr) : Heap := (zw1 h t).push { cls := .type "tuple_iterator", data := .fields #[.ref u, .int 0 0] }
abbrev zw3 (h : Heap) (t u : Addr) : Heap := (zw2 h t u).push { cls := .type "tuple", data := .seq #[.ref h.objs.size, .ref (zw1 h t).objs.size] }
abbrev zw4 (h : Heap) (t u : Addr) : Heap := (zw3 h t u).push { cls := .type "tuple", data := .seq #[.none, .none] }
abbrev zw5 (h : Heap) (t u : Addr) : Heap := (zw4 h t u).push { cls := .type "zip", data := .fields #[.none, .bool false, .bool false, .ref (zw2 h t u).objs.size, .ref (zw3 h t u).objs.size] }
theorem zjo (t u : Addr) (xs ys : Array Value) : Meets (Builtin.«zip.__new__» ⟨[.type "zip", .ref t, .ref u], []⟩) (fun _ R s => s.heap.IsTuple t xs ∧ s.heap.IsTuple u ys ∧
 R (.ok (.ret (.ref (zw4 s.heap t u).objs.size))) { s with heap := zw5 s.heap t u }) :=
 .of_wp fun prog w A R s h => by
  obtain ⟨hp, g, d, tk, os⟩ := s; obtain ⟨g1, g2, h⟩ := h
  have f0 := sub_zip
  have f1 : Heap.IsTuple (Shared.heap ⟨hp, g, d, tk, os⟩) t xs := g1
  have f2 : Heap.IsTuple (Shared.heap ⟨hp.push { cls := .type "tuple_iterator", data := .fields #[.ref t, .int 0 0] }, g, d, tk, os⟩) u ys := Heap.IsTuple.push g2 _
  wp_walk using wpAny_pyIter_tuple f1, wpAny_pyIter_tuple f2
  exact ⟨_, rfl, h⟩
theorem zj2 : bootBuiltins "zip" = some (.type "zip") := by decide +kernel
section
variable {X : Cx}
def iZip (K : PySem.W.Frag) (ta : TA) : TI := fun σ H R => ta σ H fun vs H1 => ∃ t u, vs = [.ref t, .ref u] ∧ (∃ xs, SqT K H1 t xs) ∧ (∃ ys, SqT K H1 u ys) ∧ R (Itz K t u) H1
theorem ziI {es : List Expr} {kk : Nat} {tpos : Pos} {a b : Expr} {ta : TA} {p pos : Pos} (hg : Gl X "zip") (hm : X.mg "zip" = none) (ha : PA X [a, b] ta)
 (he : starEach [a, b] X.env = (false, eval a X.env) :: starEach [b] X.env := by rfl) (hpl : (backTo pos (starEach [b] X.env)).any (·.1) = false := by rfl) :
 PI X (.Tuple es kk tpos) (.Call (.Name "zip" p) [a, b] [] pos) (iZip X.K ta) := by
 intro pins s σ H R I h
 refine wpAny_Call_Name_kw (zcX I hg hm zj2 ?_ (by decide) (by decide))
 refine PyProof.Rows.callWith_type1 (thn (ha pos pins s σ H _ I h) fun us s1 ⟨vs, H1, I1, r1, t, u, e, ⟨xs, q1⟩, ⟨ys, q2⟩, q⟩ => ?_) he hpl
 subst e
 obtain ⟨u1, u2, rfl, v1, v2⟩ := zgk r1
 cases v1
 cases v2
 obtain ⟨its1, rv1, g1, _⟩ := I1.tuple q1
 obtain ⟨its2, rv2, g2, _⟩ := I1.tuple q2
 refine callType_new PySem.F.called_zip (by decide) (PySem.F.typeCall_zip_2 _ _) (PySem.F.newCall_zip_2 _ _) (fun obj => PySem.F.args_object_init_3 obj _ _) PySem.F.entry_zip_new (zjo t u its1.toArray its2.toArray) ⟨g1, g2, ?_⟩
 have y1 : (zw1 s1.heap t).objs.size = s1.heap.objs.size + 1 := Heap.size_push ..
 have y2 : (zw2 s1.heap t u).objs.size = s1.heap.objs.size + 2 := by rw [Heap.size_push, y1]
 have y3 : (zw3 s1.heap t u).objs.size = s1.heap.objs.size + 3 := by rw [Heap.size_push, y2]
 have y4 : (zw4 s1.heap t u).objs.size = s1.heap.objs.size + 4 := by rw [Heap.size_push, y3]
 have k5 : ∀ c o, s1.heap.get? c = some o → (zw5 s1.heap t u).get? c = some o := fun c o e => Heap.get?_push_of_some _ (Heap.get?_push_of_some _ (Heap.get?_push_of_some _ (Heap.get?_push_of_some _ (Heap.get?_push_of_some _ e))))
 have e5 : (zw5 s1.heap t u).get? (zw4 s1.heap t u).objs.size = some _ := Heap.get?_push_size _ rfl
 have e4 : (zw5 s1.heap t u).get? (zw3 s1.heap t u).objs.size = some _ := Heap.get?_push_of_some _ (Heap.get?_push_size _ rfl)
 have e3 : (zw5 s1.heap t u).get? (zw2 s1.heap t u).objs.size = some _ := Heap.get?_push_of_some _ (Heap.get?_push_of_some _ (Heap.get?_push_size _ rfl))
 have e2 : (zw5 s1.heap t u).get? (zw1 s1.heap t).objs.size = some _ := Heap.get?_push_of_some _ (Heap.get?_push_of_some _ (Heap.get?_push_of_some _ (Heap.get?_push_size _ rfl)))
 have e1 : (zw5 s1.heap t u).get? s1.heap.objs.size = some _ := Heap.get?_push_of_some _ (Heap.get?_push_of_some _ (Heap.get?_push_of_some _ (Heap.get?_push_of_some _ (Heap.get?_push_size _ rfl))))
 have I2 : Inv X pins σ H1 { s1 with heap := zw5 s1.heap t u } := I1.kept (t' := s1.toks) k5
 have fp : ∀ c, s1.heap.objs.size ≤ c → FpOk X pins H1 c := fun c hc => I1.fpOk hc (I1.hok.fresh hc)
 have D : ZA (zw4 s1.heap t u).objs.size (zw2 s1.heap t u).objs.size (zw3 s1.heap t u).objs.size s1.heap.objs.size (zw1 s1.heap t).objs.size := by
  have n4 : (zw3 s1.heap t u).objs.size < (zw4 s1.heap t u).objs.size := by rw [y3, y4]; exact Nat.lt_succ_self _
  have n3 : (zw2 s1.heap t u).objs.size < (zw3 s1.heap t u).objs.size := by rw [y2, y3]; exact Nat.lt_succ_self _
  have n2 : (zw1 s1.heap t).objs.size < (zw2 s1.heap t u).objs.size := by rw [y1, y2]; exact Nat.lt_succ_self _
  have n1 : s1.heap.objs.size < (zw1 s1.heap t).objs.size := by rw [y1]; exact Nat.lt_succ_self _
  exact ⟨Nat.ne_of_lt (Nat.lt_trans n3 n4), Nat.ne_of_lt n4, Nat.ne_of_lt (Nat.lt_trans n1 (Nat.lt_trans n2 (Nat.lt_trans n3 n4))), Nat.ne_of_lt (Nat.lt_trans n2 (Nat.lt_trans n3 n4)), Nat.ne_of_lt n3, Nat.ne_of_gt (Nat.lt_trans n1 n2), Nat.ne_of_gt n2,
   Nat.ne_of_gt (Nat.lt_trans n1 (Nat.lt_trans n2 n3)), Nat.ne_of_gt (Nat.lt_trans n2 n3), Nat.ne_of_lt n1⟩
 refine ⟨⟨_, e5, rfl⟩, wpAny_pyIter_zip e5 ?_⟩
 refine ⟨_, _, _, _, H1, rfl, I2, zhY t u _ _ _ _ _ D, ⟨e5, e3, ⟨_, _, e4⟩, ⟨_, e1, rfl, rfl⟩, ⟨_, e2, rfl, rfl⟩⟩, fun c hc => fp c ?_, q⟩
 simp only [List.mem_cons, List.not_mem_nil, or_false] at hc
 rcases hc with rfl | rfl | rfl | rfl | rfl
 · rw [y4]; exact Nat.le_add_right _ _
 · rw [y2]; exact Nat.le_add_right _ _
 · rw [y3]; exact Nat.le_add_right _ _
 · exact Nat.le_refl _
 · rw [y1]; exact Nat.le_add_right _ _
end
section
variable {X : Cx} {tg iter kx vx : Expr} {ifs : List Expr} {wi : TI} {js : Cap} {g : TG} {tc : TT} {tk tv : TE} {N' : List Str} {scope : Scope} {pos : Pos}
end
section
variable {prog : Program} {w : World} {A : Around} {E : Value → Shared → Prop} {s : Shared}
theorem zhR {t sl : Addr} {items : Array Value} {vl vu : Value} {lo hi : Option Int} {Q : Value → Shared → Prop} (ht : IsTup s.heap t items) (hs : s.heap.IsSliceOf sl vl vu .none) (pl : IsPart vl lo) (pu : IsPart vu hi)
 (h0 : HT.sIx items.size 0 lo = 0) (h1 : HT.sIx items.size items.size hi = items.size) (h : Q (.ref t) s) : wpAny (model prog w) A (getItem (.ref t) (.ref sl)) Q E s := by
 obtain ⟨os, hos, hcs, hds⟩ := id hs
 have hTs : s.TypeIs (.ref sl) "slice" := ⟨os, hos, hcs⟩
 unfold getItem
 try with_reducible refine wpAny_holding ?_
 first | refine wpAny_bind (wpAny_pure ?_) | skip
 refine wpAny_bind (wpAny_sequenceKey ht.typeIs (by decide) ?_)
 refine wpAny_bind (wpAny_callSpecial?_slot (name := Str.ofString "__getitem__") ht.typeIs PyProof.Rows.slot_tuple_getitem
  (wpAny_call_entry PyProof.Rows.slot_tuple_getitem ht.typeIs PySem.F.entry_tuple_getitem ?_ (PySem.F.args_tuple_getitem_2 _ _)))
 show wpAny _ _ (Builtin.Tuple.tupleItemsOf (.ref t) >>= _) _ _ s
 refine wpAny_bind (tupleItemsOf_ ht ?_)
 refine wpAny_bind (wpAny_typeOf hTs ?_)
 rw [if_pos (by decide)]
 refine wpAny_bind (HT.sliceApplied_gen hs pl pu ?_)
 have yes : ((((HT.sIx items.size 0 lo : Nat) : Int) == 0 && (1 : Int) == 1 && (HT.sIx items.size items.size hi - HT.sIx items.size 0 lo) == items.size) = true) := by
  rw [h0, h1]
  simp
 show wpAny _ _ (if (((HT.sIx items.size 0 lo : Nat) : Int) == 0 && (1 : Int) == 1 && (HT.sIx items.size items.size hi - HT.sIx items.size 0 lo) == items.size) = true then _ else _) _ _ s
 rw [if_pos yes]
 unfold Builtin.Tuple.tupleIsExact
 refine wpAny_bind (wpAny_bind (wpAny_typeOf ht.typeIs (wpAny_pure ?_)))
 rw [if_pos (by decide)]
 exact wpAny_bind (wpAny_rule (wpAny_pure ⟨_, rfl, wpAny_pure h⟩))
end
section
variable {X : Cx}
def rSlW (K : PySem.W.Frag) : V → Option Int → Option Int → Hp → VK → Prop := fun x lo hi H Q => ∃ a xs, x = .ref a ∧ SqT K H a xs ∧
 (HT.sIx xs.length 0 lo = 0 ∧ HT.sIx xs.length xs.length hi = xs.length → Q (.ref a) H) ∧
 (¬ (HT.sIx xs.length 0 lo = 0 ∧ HT.sIx xs.length xs.length hi = xs.length) → ∀ p, H p = none → Q (.ref p) (upd H p (.tup (cutV xs lo hi))))
theorem zgU : SlR X (rSlW X.K) := by
 intro pins s σ H x v vl vu lo hi sl Q I rx hs pl pu h
 obtain ⟨a, xs, rfl, hx, q1, q2⟩ := h
 by_cases hw : HT.sIx xs.length 0 lo = 0 ∧ HT.sIx xs.length xs.length hi = xs.length
 · cases rx
   obtain ⟨its, r, ht, hz⟩ := I.tuple hx
   have hlen : its.toArray.size = xs.length := by rw [List.size_toArray]; exact r.length.symm
   refine ⟨"tuple", _, PyProof.Rows.slot_tuple_getitem.lookup, ht.typeIs, ?_⟩
   exact zhR ht hs pl pu (by rw [hlen]; exact hw.1) (by rw [hlen]; exact hw.2) ⟨.ref a, H, I, rfl, q1 hw⟩
 · exact zjv pins s σ H (.ref a) v vl vu lo hi sl Q I rx hs pl pu ⟨a, xs, rfl, hx, hw, q2 hw⟩
theorem zi3 {K : PySem.W.Frag} {H : Hp} {a : Addr} {xs : List V} {Q : VK} (h : SqT K H a xs) (q : ∀ p H', Same H H' → SqT K H' p (xs.drop 1) → Q (.ref p) H') : rSlW K (.ref a) (some 1) none H Q := by
 have e0 : HT.sIx xs.length 0 (some 1) = min 1 xs.length := HT.sIx_nat _ _ 1
 refine ⟨a, xs, rfl, h, fun hw => ?_, fun hw p hp => ?_⟩
 · rw [e0] at hw
   have hl : xs.length = 0 := by omega
   have hx : xs = [] := List.length_eq_zero_iff.mp hl
   subst hx
   exact q a H (Same.refl _) h
 · refine q p _ (zag hp _) (SqT.of ?_)
   rw [zad]
   unfold cutV
   rw [e0, show HT.sIx xs.length xs.length none = xs.length from rfl]
   cases xs with
   | nil => rfl
   | cons x r =>
    have e1 : min 1 (x :: r).length = 1 := by rw [List.length_cons]; omega
    rw [e1]
    congr 2
    rw [List.length_cons, Nat.add_sub_cancel]
    exact List.take_of_length_le (by simp)
end
section
variable {X : Cx} {K : PySem.W.Frag}
theorem zhB (K : PySem.W.Frag) (h : X.K = K) : IxR X (rIxT K) := by subst h; exact zaZ
theorem zha (K : PySem.W.Frag) (h : X.K = K) {es : List Expr} {k : Nat} {t : TGs} {n : Nat} {pos : Pos} (hc : X.calm = true) (hg : PGs X es t)
 (hn : (assignEach es X.env).length = n := by rfl) (hst : (assignEach es X.env).findIdx? (·.1) = none := by rfl) : PG X (.Tuple es k pos) (gTup K n t) := by subst h; exact zdh hc hg hn hst
end
theorem zjR {K : PySem.W.Frag} {t1 t2 p : Addr} {xs ys : List V} {g : TG} {tc : TT} {te : TE} {σ : St} {H : Hp} {Q : VK} {js : Cap} {n : Nat} (h1 : n ≤ xs.length) (h2 : n ≤ ys.length) (h3 : xs.length ≤ n ∨ ys.length ≤ n) (Pv : Nat → St → List V → Hp → Prop) (h0 : Pv 0 (inn js σ) [] (upd H p (.lst [])))
 (hl : ∀ i σ zs H, i ≤ n → Pv i σ zs H → SqT K H t1 xs ∧ SqT K H t2 ys ∧ H p = some (.lst zs) ∧ zs.length < sizeLine)
 (hs : ∀ (i : Nat) x y σ zs H q (N : St → List V → Hp → Prop), xs[i]? = some x → ys[i]? = some y → H q = none → Pv i σ zs H → (∀ σ' ys' H', Pv (i + 1) σ' ys' H' → N σ' ys' H') → zdL p g tc te zs (.ref q) σ (upd H q (.tup [x, y])) N)
 (hd : ∀ σ zs H, Pv n σ zs H → Q (.ref p) H) : zcG (Itz K t1 t2) p js g tc te σ H Q :=
 zeL (n := n) (J := Itz K t1 t2) (js := js) (σ := σ) (H := H) (p := p) (Q := Q) (g := g) (tc := tc) (te := te) Pv h0 (fun i σ zs H hi pv => (hl i σ zs H hi pv).2.2)
  (fun i σ zs H hi pv => ⟨xs, ys, xs[i], ys[i], (hl i σ zs H (Nat.le_of_lt hi) pv).1, (hl i σ zs H (Nat.le_of_lt hi) pv).2.1, by simp, by simp⟩)
  (fun σ zs H pv => ⟨xs, ys, (hl _ σ zs H (Nat.le_refl _) pv).1, (hl _ σ zs H (Nat.le_refl _) pv).2.1, h3⟩)
  (fun i v σ zs H H' N hi y pv hN => by
   obtain ⟨q, e, hq, y⟩ := y
   subst e
   have ex : xs[i]? = some xs[i] := by simp
   have ey : ys[i]? = some ys[i] := by simp
   have e2 := y xs ys _ _ (hl i σ zs H (Nat.le_of_lt hi) pv).1 (hl i σ zs H (Nat.le_of_lt hi) pv).2.1 ex ey
   subst e2
   exact hs i _ _ σ zs H q N ex ey hq pv hN) hd
theorem zec : typeLookup (.type "tuple") "keys" = pure none := by rw [typeLookup_type, builtinLookup_eq_fast]; kernel_rfl
set_option maxHeartbeats 4000000 in
theorem tup_no_keys {prog : Program} {w : World} {A : Around} {E : Value → Shared → Prop} {a : Addr} {its : Array Value} {n : Nat} {sl : Array (Option Value)} {h : Heap} {g d t os} {Q : Option Value → Shared → Prop}
 (hh : A.handled = none) (hx : h.get? a = some { cls := .type "tuple", dict := none, data := .seq its n, slots := sl })
 (q : ∀ h' tk, (∀ b o, h.get? b = some o → h'.get? b = some o) → Q none ⟨h', g, d, tk, os⟩) : wpAny (model prog w) A (getAttr? (.ref a) "keys") Q E ⟨h, g, d, t, os⟩ := by
 have y0 : ∀ tk', (⟨h, g, d, tk', os⟩ : Shared).TypeIs (.ref a) "tuple" := fun _ => ⟨_, hx, rfl⟩
 have y1 := sub_AttributeError
 have y2 := F.slot_tuple_getattribute.lookup
 have y3 := F.slot_tuple_getattribute.bind (.ref a)
 have y4 := am_tuple_getattr_none
 unfold getAttr? getAttrBy? getAttrBy
 repeat (any_goals (first
  | assumption
  | exact y0 _
  | ((with_reducible show wpAny _ _ (call (Value.builtin "tuple.__getattribute__") _ _) _ _ _)
     refine call_meets F.slot_tuple_getattribute (y0 _) am_entry_tuple_getattribute (F.args_tuple_getattribute_2 _ _) (meets_getattribute_miss_tuple a its n sl "keys" _ zec (by decide +kernel)) ⟨hx, hh, fun h' tk' e hx' => ?_⟩)
  | wp_step))
 obtain ⟨t', u', he⟩ := hx'.there
 show wpAny _ _ (getattributeRaised _ _ _ _ _ _ _) _ _ _
 unfold getattributeRaised
 repeat (any_goals (first | assumption | wp_step))
 exact q _ _ hx'.keeps
section
variable {prog : Program} {w : World} {A : Around} {E : Value → Shared → Prop} {s : Shared}
end
section
variable {X : Cx}
end
section
variable {X : Cx} {pins : List (Addr × Obj)} {σ : St} {H : Hp} {s : Shared} {h' : Heap}
end
section
variable {X : Cx}
end
section
variable {X : Cx} {e : Expr} {te : TE} {pos p2 p3 p4 : Pos} {n : Nat}
def tRev (K : PySem.W.Frag) (te : TE) : TE := fun σ H Q => te σ H fun x H1 => ∃ a xs, x = .ref a ∧ SqL K H1 a xs ∧ ∀ p, H1 p = none → Q (.ref p) (upd H1 p (.lst xs.reverse))
theorem Vals.rev : ∀ {xs : List V} {us : List Value}, Vals xs us → Vals xs.reverse us.reverse
 | _, _, .nil => .nil
 | _, _, .cons r t => by
  rw [List.reverse_cons, List.reverse_cons]
  exact (Vals.rev t).append (.cons r .nil)
theorem zjH (he : PE X e te) : PE X (.Subscript e (.Slice none none (some (.UnaryOp .USub (.Constant (.int 1) n p3) p4)) p2) pos) (tRev X.K te) := by
 intro pins s σ H Q I h
 refine Subscript_ (thn (he pins s σ H _ I h) fun v s1 ⟨x, H1, I1, r1, a, xs, hx, hq, q1⟩ => ?_)
 subst hx
 cases r1
 refine wpAny_Slice ?_
 rw [evalPart_none, evalPart_some]
 refine wpAny_pure (wpAny_pure ?_)
 have hst : PE X (.UnaryOp .USub (.Constant (.int 1) n p3) p4) _ := zja zgI zac
 refine thn (hst pins s1 σ H1 (fun v H2 => v = .int (-1) ∧ H2 = H1) I1 ⟨1, rfl, rfl, rfl⟩) fun vs s2 ⟨y, H2, I2, r2, e2, e3⟩ => ?_
 subst e2 e3
 obtain ⟨t, rfl⟩ := r2
 have I4 : Inv X pins σ H2 { s2 with heap := s2.heap.push { cls := .type "slice", data := .fields #[.none, .none, .int (-1) t] } } := I2.kept (t' := s2.toks) fun b ob q => Heap.get?_push_of_some _ q
 obtain ⟨its, r, ht, hz⟩ := I4.list hq
 have hlen := r.length
 have hg : wpAny (model X.prog X.w) X.A (getItem (.ref a) (.ref s2.heap.objs.size)) (EP X pins σ Q) X.xe { s2 with heap := s2.heap.push { cls := .type "slice", data := .fields #[.none, .none, .int (-1) t] } } := by
  refine wpAny_getItem_list_slice ht.isList (Heap.IsSliceOf.new ..) .none .none (.int (-1) t) (by decide) ?_ (by rw [List.size_toArray] <;> omega)
  rw [PySem.W.krv_pick]
  refine ⟨.ref _, _, I4.laid (t' := s2.toks) (o := .lst xs.reverse) (fun b ob q => Heap.get?_push_of_some _ q) (Nat.le_refl _) ?_, rfl, q1 _ (I4.hok.fresh (Nat.le_refl _))⟩
  exact ⟨by rw [List.length_reverse]; exact hz, _, 0, Vals.rev r, Heap.get?_push_size _ rfl⟩
 show wpAny (model X.prog X.w) X.A (subscriptTail e (.Slice none none (some (.UnaryOp .USub (.Constant (.int 1) n p3) p4)) p2) (.ref a) (.ref s2.heap.objs.size)) (EP X pins σ Q) X.xe { s2 with heap := s2.heap.push { cls := .type "slice", data := .fields #[.none, .none, .int (-1) t] } }
 exact tail_any (ops := _) ht.isList.typeIs slot_list_getitem.lookup hg (by with_unfolding_all rfl)
end
def unlike (ns : List Int) : Nat := (ns.foldl step_dedup []).length
section
variable {X : Cx} {e : Expr} {te : TE} {pos p2 p3 p4 : Pos}
end
section
variable {X : Cx}
end
end L2
namespace WB
end WB
namespace L2
open PySem PySem.Spec PyProof.Rows
section
variable {X : Cx}
def ziA (i j : Int) : Prop := i.natAbs < 2 ^ 1000 ∧ j.natAbs < 2 ^ 1000
end
section
variable {K : PySem.W.Frag} {H : Hp} {Q : VK}
end
theorem nb {i : Int} (h0 : 0 ≤ i) (h1 : i < 2 ^ 400) : i.natAbs < 2 ^ 1000 := by
 have : i.natAbs < 2 ^ 400 := by omega
 exact Nat.lt_of_lt_of_le this (by decide)
theorem stir {y z : Int} (y0 : 0 ≤ y) (y1 : y < 10 ^ 41) (z0 : 0 ≤ z) (z1 : z ≤ 2 ^ 31) :
 ziA 30011 z ∧ ziA (y + 1) (30011 * z + 7) ∧ ziA 104729 z ∧ ziA (104729 * z) z ∧ 0 ≤ (y + 1) * (30011 * z + 7) + 104729 * z * z ∧ (y + 1) * (30011 * z + 7) + 104729 * z * z < 2 ^ 400 := by
 have a0 : 0 ≤ 30011 * z + 7 := by omega
 have a1 : 30011 * z + 7 ≤ 2 ^ 50 := by omega
 have a2 : (y + 1) * (30011 * z + 7) ≤ (10 ^ 41) * 2 ^ 50 := Int.mul_le_mul (by omega) a1 a0 (by decide)
 have a3 : 0 ≤ (y + 1) * (30011 * z + 7) := Int.mul_nonneg (by omega) a0
 have b0 : 0 ≤ 104729 * z := by omega
 have b1 : 104729 * z ≤ 2 ^ 50 := by omega
 have b2 : 104729 * z * z ≤ 2 ^ 50 * 2 ^ 31 := Int.mul_le_mul b1 z1 z0 (by decide)
 have b3 : 0 ≤ 104729 * z * z := Int.mul_nonneg b0 z0
 refine ⟨⟨by decide, nb z0 (by omega)⟩, ⟨nb (by omega) (by omega), nb a0 (by omega)⟩, ⟨by decide, nb z0 (by omega)⟩, ⟨nb b0 (by omega), nb z0 (by omega)⟩, by omega, by omega⟩
def zh3 (K : PySem.W.Frag) : Sp := fun vs H Q _ => ∃ (a : Addr) (ns : List Int), vs = [.ref a] ∧ SqL K H a (ns.map V.int) ∧ ns.length ≤ 63 ∧ ∀ H', Q (.bl true) H'
def Tups (H H' : Hp) : Prop := ∀ a xs, H a = some (.tup xs) → H' a = some (.tup xs)
theorem Tups.trans {H H1 H2 : Hp} (a : Tups H H1) (b : Tups H1 H2) : Tups H H2 := fun c xs h => b c xs (a c xs h)
theorem Same.tups {H H' : Hp} (s : Same H H') : Tups H H' := fun a xs h => s _ _ h
theorem zdN {H : Hp} {p : Addr} {ys : List V} {o : HO} (h : H p = some (.lst ys)) : Tups H (upd H p o) := fun a xs e => by
 rw [zal (zje e h (by intro z; cases z))]
 exact e
theorem zcH {H H0 : Hp} {p : Addr} {o : HO} (s : Same H0 H) (n : H0 p = none) : Same H0 (upd H p o) := fun a u e => by
 rw [zal (zao e n)]
 exact s _ _ e
def endV : V → Bool
 | .non => true
 | .int _ => true
 | _ => false
def leV : V → V → Bool
 | .int i, .int j => decide (i ≤ j)
 | _, _ => true
def zba (H : Hp) : V → Bool
 | .ref a => match H a with
  | some (.tup [x, y]) => endV x && endV y && leV x y
  | _ => false
 | _ => false
def SpanAt (H : Hp) (v : V) (lo hi : Option Int) : Prop := ∃ a, v = .ref a ∧ H a = some (.tup [eV lo, eV hi])
def leO : Option Int → Option Int → Bool
 | some i, some j => decide (i ≤ j)
 | _, _ => true
theorem zhE {H : Hp} {v : V} {lo hi : Option Int} (h : SpanAt H v lo hi) : zba H v = leO lo hi := by
 obtain ⟨a, rfl, e⟩ := h
 unfold zba
 simp only [e]
 cases lo <;> cases hi <;> simp [eV, endV, leV, leO]
theorem zjq {K : PySem.W.Frag} {H : Hp} (o : Option Int) : ∃ t, TyOf K H (eV o) (.type t) := by
 cases o with
 | none => exact ⟨_, .non⟩
 | some i => exact ⟨_, .int i⟩
def zcJ (K : PySem.W.Frag) : Sp := fun vs H Q _ => ∃ (v : V) (t : String), vs = [v] ∧ TyOf K H v (.type t) ∧ Q (.bl (t == "int")) H
def zi1 (K : PySem.W.Frag) : Sp := fun vs H Q _ => ∃ (v : V) (t : String), vs = [v] ∧ TyOf K H v (.type t) ∧ Q (.bl (endV v)) H
def ziV (K : PySem.W.Frag) (H : Hp) (v : V) : Prop := ∀ a x y, v = .ref a → H a = some (.tup [x, y]) → ∃ t1 t2, TyOf K H x (.type t1) ∧ TyOf K H y (.type t2)
def zdT (K : PySem.W.Frag) : Sp := fun vs H Q _ => ∃ (v : V) (t : String), vs = [v] ∧ TyOf K H v (.type t) ∧ ziV K H v ∧ Q (.bl (zba H v)) H
theorem SpanAt.ty {K : PySem.W.Frag} {H : Hp} {v : V} {lo hi : Option Int} (h : SpanAt H v lo hi) : TyOf K H v (.type "tuple") ∧ ziV K H v := by
 obtain ⟨a, rfl, q⟩ := h
 refine ⟨.tup q, fun a' x y e q' => ?_⟩
 cases e
 rw [q] at q'
 injection q' with q'
 injection q' with q'
 injection q' with e1 e2
 injection e2 with e2 _
 subst e1 e2
 obtain ⟨t1, h1⟩ := zjq (K := K) (H := H) lo
 obtain ⟨t2, h2⟩ := zjq (K := K) (H := H) hi
 exact ⟨t1, t2, h1, h2⟩
def apart : Option Int → Option Int → Bool
 | some l, some h => decide (h < l)
 | _, _ => false
abbrev T15 : Int := 1000000000000000
def zfH (i : Int) : Int := if (if i < 10 ^ (15 : Int).toNat - 1 then i else 10 ^ (15 : Int).toNat - 1) > 1 - 10 ^ (15 : Int).toNat then (if i < 10 ^ (15 : Int).toNat - 1 then i else 10 ^ (15 : Int).toNat - 1) else 1 - 10 ^ (15 : Int).toNat
theorem e15 : (10 : Int) ^ (15 : Int).toNat = T15 := by decide
theorem zf6 (i : Int) : (zfH i = i ∧ -T15 < i ∧ i < T15) ∨ (zfH i = T15 - 1 ∧ T15 ≤ i + 1) ∨ (zfH i = 1 - T15 ∧ i ≤ 1 - T15) := by
 unfold zfH
 rw [e15]
 unfold T15
 split <;> split <;> omega
def inT (o : Option Int) : Prop := ∀ i, o = some i → -T15 < i ∧ i < T15
structure Good (lo hi : Option Int) : Prop where
 le : leO lo hi = true
 lo : inT lo
 hi : inT hi
def zgR : Sp := fun vs H Q _ => ∃ i : Int, vs = [.int i] ∧ Q (.int (zfH i)) H
def zdR : Sp := fun vs H Q _ => ∃ (b g l : Addr) (n : Int), vs = [.ref b] ∧ Bag H b g l n ∧ n ≤ 10 ^ 9 ∧ ∀ (r : Int) (H' : Hp), -T15 < r → r < T15 → Bag H' b g l (n + 3) → SameB b g H H' → Q (.int r) H'
def zgO : Sp := fun vs H Q _ => ∃ (b g l : Addr) (n : Int), vs = [.ref b] ∧ Bag H b g l n ∧ n ≤ 10 ^ 8 ∧ ∀ (v : V) (lo hi : Option Int) (H' : Hp), SpanAt H' v lo hi → Good lo hi → Bag H' b g l (n + 8) → SameB b g H H' → Q v H'
def ze4 : Sp := fun vs H Q _ => ∃ (b g l : Addr) (n : Int) (w : V) (lo0 hi0 : Option Int), vs = [.ref b, w] ∧ Bag H b g l n ∧ SpanAt H w lo0 hi0 ∧ n ≤ 10 ^ 8 ∧ ∀ (v : V) (lo hi : Option Int) (H' : Hp), SpanAt H' v lo hi → Good lo hi → Bag H' b g l (n + 8) → SameB b g H H' → Q v H'
theorem pw10 {j : Int} (h0 : 0 ≤ j) (h1 : j ≤ 1000) : zj7 10 j := ⟨h0, h1, by decide⟩
def near : Option Int → List Int
 | none => []
 | some e => [e - 1, e, e + 1]
def dE : Option Int → PD
 | none => .non
 | some i => .int i
theorem zfU {K : PySem.W.Frag} {H : Hp} (o : Option Int) : Rep K H (dE o) (eV o) := by
 cases o with
 | none => show Rep K H .non .non; rw [Rep]
 | some i => show Rep K H (.int i) (.int i); rw [Rep]
def zbh (c : Nat) : Bool := decide (97 ≤ c) && decide (c ≤ 122)
structure FieldOk (x : Str) : Prop where
 one : 1 ≤ x.length
 eight : x.length ≤ 8
 all : ∀ c ∈ x.cps.toList, zbh c = true
theorem zkr : ("a" : Str).cps.toList = [97] := by decide +kernel
theorem zkq : ("z" : Str).cps.toList = [122] := by decide +kernel
theorem ge_a {c : Nat} (h : zbh c = true) : (!decide ((⟨#[c]⟩ : Str).cps.toList < ("a" : Str).cps.toList)) = true := by
 rw [zkr]
 have h1 : 97 ≤ c := of_decide_eq_true ((Bool.and_eq_true _ _).mp h).1
 have : ¬ ([c] : List Nat) < [97] := by
  intro z
  cases z with
  | rel z => exact absurd z (by omega)
  | cons z => cases z
 show (!decide (([c] : List Nat) < [97])) = true
 rw [decide_eq_false this]
 rfl
theorem le_z {c : Nat} (h : zbh c = true) : (!decide (("z" : Str).cps.toList < (⟨#[c]⟩ : Str).cps.toList)) = true := by
 rw [zkq]
 have h1 : c ≤ 122 := of_decide_eq_true ((Bool.and_eq_true _ _).mp h).2
 have : ¬ ([122] : List Nat) < [c] := by
  intro z
  cases z with
  | rel z => exact absurd z (by omega)
  | cons z => cases z
 show (!decide (([122] : List Nat) < [c])) = true
 rw [decide_eq_false this]
 rfl
def ze8 : Sp := fun vs H Q _ => ∃ x : Str, vs = [.str x] ∧ FieldOk x ∧ ∀ H', Same H H' → Q (.bl true) H'
def zkt (H : Hp) (p : Addr) (f : Str) (lo hi : Option Int) : Prop := H p = some (.tup [.str f, eV lo, eV hi])
def zcI : Sp := fun vs H Q _ => ∃ (p : Addr) (f : Str) (lo hi : Option Int), vs = [.ref p] ∧ zkt H p f lo hi ∧ FieldOk f ∧ leO lo hi = true ∧ ∀ H', Same H H' → Q (.bl true) H'
def ltF (f g : Str) : Prop := f.cps.toList < g.cps.toList
def zdV : Sp := fun vs H Q _ => ∃ (a : Addr) (ps : List (Addr × Str × List V)), vs = [.ref a] ∧ H a = some (.tup (ps.map fun p => V.ref p.1)) ∧ ps.length ≤ 100 ∧ (∀ p ∈ ps, H p.1 = some (.tup (V.str p.2.1 :: p.2.2))) ∧
 (∀ (i : Nat) p q, ps[i]? = some p → ps[i + 1]? = some q → ltF p.2.1 q.2.1) ∧ ∀ H', Same H H' → Q (.bl true) H'
abbrev WP := Str × Option Int × Option Int
def WishAt (H : Hp) (a : Addr) (w : List WP) : Prop := ∃ ps : List (Addr × WP), ps.map (·.2) = w ∧ H a = some (.tup (ps.map fun p => V.ref p.1)) ∧ ∀ p ∈ ps, H p.1 = some (.tup [.str p.2.1, eV p.2.2.1, eV p.2.2.2])
theorem WishAt.keep {H H' : Hp} {a : Addr} {w : List WP} (h : WishAt H a w) (s : Tups H H') : WishAt H' a w := by
 obtain ⟨ps, e, h1, h2⟩ := h
 exact ⟨ps, e, s _ _ h1, fun p hp => s _ _ (h2 p hp)⟩
theorem WishAt.same {H H' : Hp} {a : Addr} {w : List WP} (h : WishAt H a w) (s : Same H H') : WishAt H' a w := h.keep s.tups
structure WOk (w : List WP) : Prop where
 len : w.length ≤ 100
 ok : ∀ p ∈ w, FieldOk p.1 ∧ leO p.2.1 p.2.2 = true
 asc : (w.map (·.1)).Pairwise ltF
def zdS : Sp := fun vs H Q _ => ∃ (a : Addr) (w : List WP), vs = [.ref a] ∧ WishAt H a w ∧ WOk w ∧ ∀ H', Same H H' → Q (.bl true) H'
theorem zgM : ∀ {ts : List Str} {us : List Value}, Vals (ts.map V.str) us → ∃ l : List (Str × Tok), strValues l = us ∧ l.map (·.1) = ts
 | [], _, h => by cases h; exact ⟨[], rfl, rfl⟩
 | x :: ts, _, h => by
  rw [List.map_cons] at h
  cases h with
  | cons r h =>
   obtain ⟨t, rfl⟩ := r
   obtain ⟨l, h1, h2⟩ := zgM h
   exact ⟨(x, t) :: l, by rw [← h1]; rfl, by rw [← h2]; rfl⟩
theorem zdC : ∀ {ts : List Str} {us : List Value}, Vals (ts.map V.str) us → StrsAre us ts
 | [], _, h => by cases h; exact .nil
 | x :: ts, _, h => by
  rw [List.map_cons] at h
  cases h with
  | cons r h =>
   obtain ⟨t, rfl⟩ := r
   exact .cons _ _ (zdC h)
theorem zcT : ∀ {us : List Value} {ts : List Str}, StrsAre us ts → Vals (ts.map V.str) us
 | _, _, .nil => .nil
 | _, _, .cons n t h => .cons ⟨t, rfl⟩ (zcT h)
section
variable {X : Cx}
def zkh (K : PySem.W.Frag) : V → List V → Hp → VK → Prop := fun x vs H Q => ∃ (y : Str) (a : Addr) (ts : List Str), x = .str y ∧ vs = [.ref a] ∧ SqL K H a (ts.map V.str) ∧ JoinOk y ts = true ∧ Q (.str (Txt.join y ts)) H
theorem zhl : MtM X "str.join" (zkh X.K) := by
 intro pins s σ H x vs v us Q I rx rv h
 obtain ⟨y, a, ts, rfl, rfl, hq, hok, q⟩ := h
 obtain ⟨t, rfl⟩ := rx
 obtain ⟨u, rfl, ru⟩ := rv.one
 cases ru
 obtain ⟨its, r, ht, hz⟩ := I.list hq
 obtain ⟨l, rfl, rfl⟩ := zgM r
 unfold JoinOk at hok
 rw [Bool.not_eq_true'] at hok
 refine call_meets F.slot_str_join (typeIs_str _ _ _) F.entry_str_join (F.args_str_join_2 _ _) (meets_str_join_list y t a l hok) ⟨ht.isList, post_join l ⟨joinFit_length hok, fun t' k => ?_⟩⟩
 exact ⟨.str _, H, I.kept (t' := k) fun b o e => e, ⟨t', rfl⟩, q⟩
end
theorem zjL (t : SetTable) (n : Nat) : (t.orStandIn n).led = t.led := by unfold SetTable.orStandIn; split <;> rfl
theorem zih (t : SetTable) (n : Nat) (h : t.plain = false) : (t.orStandIn n).plain = false := by
 unfold SetTable.orStandIn
 split
 · exact h
 · rfl
theorem zjg (t : SetTable) (es : Array (Int × Value)) (h : Int) (x : Value) : (layNew t es h x).2.1.led = t.led := by
 unfold layNew
 split
 · exact (zjL _ _).trans rfl
 · rfl
theorem zhw (t : SetTable) (es : Array (Int × Value)) (h : Int) (x : Value) : t.plain = false → (layNew t es h x).2.1.plain = false := by
 intro hp
 unfold layNew
 split
 · exact zih _ _ hp
 · rfl
theorem zhx {mask finger moves : Nat} {led plain : Bool} {hs : Array Int} {t : SetTable} {o : Array Nat} (h : SetTable.laid mask finger moves led plain hs = some (t, o)) : t.led = led ∧ t.plain = plain := by
 unfold SetTable.laid at h
 cases h1 : SetTable.layClean mask hs with
 | none => rw [h1] at h; cases h
 | some ow =>
  rw [h1] at h
  simp only [Option.bind_eq_bind, Option.bind_some, Option.pure_def, Option.some.injEq, Prod.mk.injEq] at h
  rw [← h.1]
  exact ⟨rfl, rfl⟩
theorem zg2 (t : SetTable) (es : Array (Int × Value)) (n : Nat) : (relayAll t es n).2.1.led = t.led := by
 unfold relayAll
 split
 · rename_i t' o h
   dsimp only
   split
   · exact (zhx h).1
   · rfl
 · rfl
theorem zfl (t : SetTable) (es : Array (Int × Value)) (n : Nat) (hp : t.plain = false) : (relayAll t es n).2.1.plain = false := by
 unfold relayAll
 split
 · rename_i t' o h
   dsimp only
   split
   · rw [← hp]; exact (zhx h).2
   · rfl
 · rfl
def byTx (w : World) : Bool := w.params.followText "set-order"
structure TxSet (prog : Program) (w : World) (h : Heap) (a : Addr) (ks : List Str) : Prop where
 at' : ∃ (es : Array (Int × Value)) (ep : Nat) (t : SetTable), h.get? a = some { cls := .type "set", dict := none, data := .set es ep t } ∧ ElemsOf (strKind prog w) es.toList ∧
  StrsAre (es.toList.map (·.2)) ks ∧ t.fits es.size = true ∧ t.led = !byTx w ∧ (es.size = 0 ∨ t.plain = false)
 nodup : ks.Nodup
 few : ks.length < scanBound
theorem zbj : ∀ {vs : List Value} {ks : List Str}, StrsAre vs ks → vs.length = ks.length
 | _, _, .nil => rfl
 | _, _, .cons _ _ h => by rw [List.length_cons, List.length_cons, zbj h]
theorem zc7 : ∀ {vs us : List Value} {ks js : List Str}, StrsAre vs ks → StrsAre us js → StrsAre (vs ++ us) (ks ++ js)
 | _, _, _, _, .nil, h => h
 | _, _, _, _, .cons _ _ h', h => .cons _ _ (zc7 h' h)
theorem zbU {vs us : List Value} (p : us.Perm vs) : ∀ {ks : List Str}, StrsAre vs ks → ∃ js, StrsAre us js ∧ js.Perm ks := by
 induction p with
 | nil => intro ks h; exact ⟨ks, h, .refl _⟩
 | cons x p ih =>
  intro ks h
  cases h with
  | cons y t h =>
   obtain ⟨js, h1, h2⟩ := ih h
   exact ⟨y :: js, .cons y t h1, h2.cons _⟩
 | swap x y l =>
  intro ks h
  cases h with
  | cons y t h =>
   cases h with
   | cons y2 t2 h => exact ⟨y2 :: y :: _, .cons _ _ (.cons _ _ h), .swap _ _ _⟩
 | trans p1 p2 ih1 ih2 =>
  intro ks h
  obtain ⟨js, h1, h2⟩ := ih2 h
  obtain ⟨is, h3, h4⟩ := ih1 h1
  exact ⟨is, h3, h4.trans h2⟩
theorem zcl : ∀ {vs : List Value} {ks : List Str}, StrsAre vs ks → ∀ k, k ∈ ks ↔ ∃ t, Value.str k t ∈ vs
 | _, _, .nil, k => by simp
 | _, _, .cons y t h, k => by
  rw [List.mem_cons, zcl h k]
  constructor
  · rintro (rfl | ⟨u, hu⟩)
    · exact ⟨t, .head _⟩
    · exact ⟨u, .tail _ hu⟩
  · rintro ⟨u, hu⟩
    cases hu with
    | head => exact .inl rfl
    | tail _ hu => exact .inr ⟨u, hu⟩
theorem ze2 {prog : Program} {w : World} (k : Str) (t : Tok) : (strKind prog w).is k (.str k t) = true := by
 show Value.isStrOf k (.str k t) = true
 simp [Value.isStrOf]
theorem zg6 (h : Heap) (a : Addr) (es es' : Array (Int × Value)) (ep : Nat) (t t' : SetTable) (ho : h.get? a = some { cls := .type "set", dict := none, data := .set es ep t }) :
 (h.update a (Obj.putSet es' t')).get? a = some { cls := .type "set", dict := none, data := .set es' (ep + 1) t' } := by
 have := Heap.get?_update_self (Obj.putSet es' t') ho (by rw [putSet_of es' t' (o := { cls := .type "set", dict := none, data := .set es ep t }) rfl]; rfl)
 rw [putSet_of es' t' (o := { cls := .type "set", dict := none, data := .set es ep t }) rfl] at this
 exact this
section
variable {prog : Program} {w : World} {A : Around} {E : Value → Shared → Prop} {s : Shared}
theorem zhZ {a : Addr} {ks : List Str} {k : Str} {tk : Tok} {Q : Bool → Shared → Prop} (hS : TxSet prog w s.heap a ks) (hroom : ks.length + 1 < scanBound)
 (h : ∀ h' ks', Heap.SameBut a s.heap h' → TxSet prog w h' a ks' → ks'.length ≤ ks.length + 1 → (∀ x, x ∈ ks' ↔ x ∈ ks ∨ x = k) → ∀ b, Q b { s with heap := h' }) :
 wpAny (model prog w) A (setAddHashed a (.str k tk) ((strKind prog w).hash k)) Q E s := by
 obtain ⟨⟨es, ep, t, ho, hel, hks, hf, hled, hpl⟩, hnd, hfew⟩ := hS
 have hsz : es.size = ks.length := by rw [← zbj hks, List.length_map, Array.length_toList]
 have hb : es.size < scanBound := by rw [hsz]; exact hfew
 have hkey : (strKind prog w).is k (.str k tk) = true := ze2 k tk
 unfold setAddHashed setAddHashedIn
 refine wpAny_holding (wpAny_bind (wpAny_setState_of ho rfl hf ?_))
 dsimp only
 rw [byScan_of (knd := strKind prog w) rfl hb hel]
 simp only [↓reduceIte]
 unfold setAddByScan
 refine wpAny_bind ?_
 refine wpAny_bind (wpAny_rule ?_)
 refine wpAny_bind (wpAny_setScan_of (knd := strKind prog w) hkey ho rfl hf hel ?_)
 have isk : ∀ e ∈ es.toList, (strKind prog w).is k e.2 = true → k ∈ ks := fun e he q => by
  obtain ⟨t', q'⟩ := Value.isStrOf_shape q
  exact (zcl hks k).mpr ⟨t', by rw [← q']; exact List.mem_map_of_mem he⟩
 cases hr : List.findIdx? (fun e => (strKind prog w).is k e.2) es.toList with
 | some j =>
  dsimp only
  obtain ⟨hj, hpj, _⟩ := List.findIdx?_eq_some_iff_getElem.mp hr
  have hk : k ∈ ks := isk _ (List.getElem_mem hj) hpj
  refine wpAny_pure (wpAny_pure ?_)
  exact h s.heap ks (Heap.SameBut.refl a s.heap) ⟨⟨es, ep, t, ho, hel, hks, hf, hled, hpl⟩, hnd, hfew⟩ (Nat.le_succ _) (fun x => ⟨.inl, fun q => q.elim id fun e => e ▸ hk⟩) _
 | none =>
  dsimp only
  have hk : k ∉ ks := fun hm => by
   obtain ⟨t', ht⟩ := (zcl hks k).mp hm
   obtain ⟨e, he, q⟩ := List.mem_map.mp ht
   have := List.findIdx?_eq_none_iff.mp hr e he
   rw [q, ze2] at this
   cases this
  have hgw : ∀ (b : Bool) {s₁ : Shared} {Q' : Unit → Shared → Prop}, Q' () s₁ → wpAny (model prog w) A (match b with | true => rule "set.scan.the-table-gave-way" | false => pure ()) Q' E s₁ :=
   fun b s₁ Q' hq => by cases b <;> first | exact wpAny_pure hq | exact wpAny_rule hq
  have hperm := layNew_perm t es ((strKind prog w).hash k) (.str k tk)
  have hfits := layNew_fits t es ((strKind prog w).hash k) (.str k tk)
  have hl1 := zjg t es ((strKind prog w).hash k) (.str k tk)
  have hp1 := zhw t es ((strKind prog w).hash k) (.str k tk)
  generalize hL : layNew t es ((strKind prog w).hash k) (.str k tk) = L at hperm hfits hl1 hp1 ⊢
  obtain ⟨es1, t1, wasDummy, gave⟩ := L
  dsimp only at hperm hfits hl1 hp1 ⊢
  rw [Array.toList_push] at hperm
  have hel1 : ElemsOf (strKind prog w) es1.toList := (hel.push hkey rfl).perm hperm
  have h0 : StrsAre ((es.toList ++ [((strKind prog w).hash k, Value.str k tk)]).map (·.2)) (ks ++ [k]) := by
   rw [List.map_append]
   exact zc7 hks (.cons k tk .nil)
  obtain ⟨k1, hk1, hkp1⟩ := zbU (hperm.map (·.2)) h0
  have hsz1 : es1.size = ks.length + 1 := by rw [← Array.length_toList, hperm.length_eq, List.length_append, Array.length_toList, hsz]; rfl
  have nd0 : (ks ++ [k]).Nodup := by
   rw [List.nodup_append]
   exact ⟨hnd, by simp, fun x hx y hy => by rw [List.mem_singleton] at hy; subst hy; exact fun e => hk (e ▸ hx)⟩
  have fin : ∀ (h' : Heap) (es2 : Array (Int × Value)) (ep2 : Nat) (t2 : SetTable), Heap.SameBut a s.heap h' → h'.get? a = some { cls := .type "set", dict := none, data := .set es2 ep2 t2 } → es2.toList.Perm es1.toList → t2.fits es2.size = true →
   t2.led = t.led → t2.plain = false → ∀ b, Q b { s with heap := h' } := fun h' es2 ep2 t2 sb ho2 p2 f2 l2 pl2 b => by
   obtain ⟨k2, hk2, hkp2⟩ := zbU (p2.map (·.2)) hk1
   have hp : k2.Perm (ks ++ [k]) := hkp2.trans hkp1
   have hlen : k2.length = ks.length + 1 := by rw [hp.length_eq, List.length_append]; rfl
   refine h h' k2 sb ⟨⟨es2, ep2, t2, ho2, hel1.perm p2, hk2, f2, l2.trans hled, .inr pl2⟩, hp.nodup_iff.mpr nd0, by omega⟩ (by omega) (fun x => ?_) b
   rw [hp.mem_iff, List.mem_append, List.mem_singleton]
  refine wpAny_bind (hgw _ ?_)
  have tail : ∀ (t2 : SetTable), t2.fits es1.size = true → t2.led = t.led → t2.plain = false → ∀ {R : Option Bool → Shared → Prop}, (∀ h', (∀ b, Q b { s with heap := h' }) → R (some true) { s with heap := h' }) →
   wpAny (model prog w) A (do
    storeSet a es1 t2
    if (!wasDummy && t2.tooFull) = true then do
        (match (relayAll t2 es1 (SetTable.grown es1.size)).2.2 with | true => rule "set.scan.the-table-gave-way" | false => pure ())
        storeSet a (relayAll t2 es1 (SetTable.grown es1.size)).1 (relayAll t2 es1 (SetTable.grown es1.size)).2.1
        pure (some true)
     else pure (some true)) R E s := by
   intro t2 f2 l2 pl2 R hR
   refine wpAny_bind (wpAny_storeSet_of ho rfl ?_ (fits_of_scanBound (by omega)))
   have ho1 := zg6 s.heap a es es1 ep t t2 ho
   have sb1 := Heap.SameBut.update s.heap a (Obj.putSet es1 t2)
   split
   · have hp := relayAll_perm t2 es1 (SetTable.grown es1.size)
     have hfr := relayAll_fits t2 es1 (SetTable.grown es1.size)
     have hl2 := zg2 t2 es1 (SetTable.grown es1.size)
     have hp2 := zfl t2 es1 (SetTable.grown es1.size) pl2
     generalize hRl : relayAll t2 es1 (SetTable.grown es1.size) = Rl at hp hfr hl2 hp2 ⊢
     obtain ⟨es2, t3, gave2⟩ := Rl
     dsimp only at hp hfr hl2 hp2 ⊢
     have hs2 : es2.size = es1.size := by rw [← Array.length_toList, hp.length_eq, Array.length_toList]
     refine wpAny_bind (hgw _ ?_)
     refine wpAny_bind (wpAny_storeSet_of ho1 rfl ?_ (fits_of_scanBound (by omega)))
     exact wpAny_pure (hR _ (fin _ es2 _ t3 (sb1.trans (Heap.SameBut.update _ a _)) (zg6 _ a es1 es2 (ep + 1) t2 t3 ho1) hp hfr (hl2.trans l2) hp2))
   · exact wpAny_pure (hR _ (fin _ es1 _ t2 sb1 ho1 (.refl _) f2 l2 pl2))
  split
  · refine wpAny_bind ?_
    rw [hashByValue_scannable 8 (x := .str k tk) rfl]
    refine wpAny_pure ?_
    exact tail { t1 with plain := false } (SetTable.fits_plain_off hfits) hl1 rfl fun h' q => wpAny_pure (q _)
  · rename_i hnp
    refine wpAny_bind (wpAny_pure ?_)
    simp only [↓reduceIte]
    exact tail t1 hfits hl1 (by simpa using hnp) fun h' q => wpAny_pure (q _)
end
theorem TxSet.kept {prog : Program} {w : World} {h h' : Heap} {a : Addr} {ks : List Str} (T : TxSet prog w h a ks) (k : ∀ o, h.get? a = some o → h'.get? a = some o) : TxSet prog w h' a ks := by
 obtain ⟨⟨es, ep, t, ho, r⟩, b, c⟩ := T
 exact ⟨⟨es, ep, t, k _ ho, r⟩, b, c⟩
theorem zgN : ∀ {vs : List Value} {ts : List Str}, StrsAre vs ts → ∀ (i : Nat) (v : Value), vs[i]? = some v → ∃ x t, v = .str x t ∧ ts[i]? = some x
 | _, _, .nil, i, v, h => by simp at h
 | _, _, .cons y t hr, 0, v, h => by simp at h; exact ⟨y, t, h.symm, rfl⟩
 | _, _, .cons y t hr, i + 1, v, h => by
  rw [List.getElem?_cons_succ] at h
  obtain ⟨x, t', e, e2⟩ := zgN hr i v h
  exact ⟨x, t', e, by rw [List.getElem?_cons_succ]; exact e2⟩
section
variable {prog : Program} {w : World} {A : Around} {R : Result → Shared → Prop} {I : Addr} {fp wr : List Addr} {G : Array GenState → Array GenState → Prop} {P : Nat → Value → Prop} {St : Nat → Shared → Prop}
theorem zgK (ts : List Str) (W : WalksS prog w A.in1 I fp wr G ts.length P St) (S : Addr) (hSf : S ∉ fp)
 (hval : ∀ i v, P i v → ∃ x t, v = .str x t ∧ ts[i]? = some x) (hb : ts.length + 1 < scanBound) :
 ∀ (k i : Nat) (s : Shared) (ks : List Str), ts.length - i = k → i ≤ ts.length → St i s → TxSet prog w s.heap S ks → ks.length ≤ i → (∀ x, x ∈ ks ↔ x ∈ ts.take i) →
  (∀ s' ks', Moved (S :: wr) G s s' → TxSet prog w s'.heap S ks' → ks'.length ≤ ts.length → (∀ x, x ∈ ks' ↔ x ∈ ts) → R (.ok (.ret .none)) s') →
  codeAny (model prog w) A (.builtin "set.update.loop" ⟨[.ref S, .ref I], []⟩) R s := by
 have hSw : S ∉ wr := fun h => hSf (W.sub _ h)
 have hsub : ∀ b ∈ wr, b ∈ S :: wr := fun b hb => List.mem_cons_of_mem _ hb
 intro k
 induction k with
 | zero =>
  intro i s ks hk hi hst hS hl hm0 hR
  have hin : i = ts.length := by omega
  subst hin
  refine codeAny_builtin PyProof.Rows.F.entry_set_update_loop ?_
  rw [Around.under_plainId PyProof.Rows.F.plain_set_update_loop _]
  show wpAny _ A.in1 (pyNext (.ref I) >>= _) _ _ s
  refine wpAny_bind (W.done s _ _ hst fun s' hm => ?_)
  show wpAny _ A.in1 (ret Value.none) _ _ s'
  exact wpAny_pure (hR s' ks (hm.mono hsub) (hS.kept fun o e => hm.heap S _ hSw e) hl (fun x => by rw [hm0, List.take_length]))
 | succ k ih =>
  intro i s ks hk hi hst hS hl hm0 hR
  have hlt : i < ts.length := by omega
  refine codeAny_builtin PyProof.Rows.F.entry_set_update_loop ?_
  rw [Around.under_plainId PyProof.Rows.F.plain_set_update_loop _]
  show wpAny _ A.in1 (pyNext (.ref I) >>= _) _ _ s
  refine wpAny_bind (W.item i s _ _ hlt hst fun v s' hP hst' hm => ?_)
  obtain ⟨x, t, rfl, hx⟩ := hval i v hP
  have hS' : TxSet prog w s'.heap S ks := hS.kept fun o e => hm.heap S _ hSw e
  show wpAny _ A.in1 (holding [Value.str x t] (setAdd S (.str x t)) >>= _) _ _ s'
  refine wpAny_bind (wpAny_holding ?_)
  unfold setAdd
  refine wpAny_holding ?_
  refine wpAny_bind ((strKind prog w).pyHash (k := x) (ze2 x t) ?_)
  refine zhZ (s := { s' with toks := s'.toks + 1 }) hS' (by omega) fun h' ks' hsb hS2 hl2 hm2 b => ?_
  refine wpAny_pure ⟨plainId_quiet PyProof.Rows.F.plain_set_update_loop _, ih (i + 1) _ ks' (by omega) hlt (W.frame _ s' _ _ hst' (Nat.le_succ _) fun b hb o e => ?_) hS2 (by omega) (fun y => ?_) fun s'' k2 hm'' hS'' => ?_⟩
  · rw [hsb.2 b (fun h : b = S => hSf (by rw [← h]; exact hb))]; exact e
  · rw [hm2, hm0, List.take_succ, hx]
    simp
  · refine hR s'' k2 (Moved.trans W.gtrans ((hm.mono hsub).then_heap (Nat.le_succ _) fun b o hb e => ?_) hm'') hS''
    rw [hsb.2 b (fun h : b = S => hb (by rw [h]; exact List.mem_cons_self))]; exact e
end
section
variable {prog : Program} {w : World} {A : Around} {E : Value → Shared → Prop} {s : Shared}
theorem zfM (a : Value) {Q₁ : Value → Shared → Prop}
 (h : Q₁ (.ref s.heap.objs.size) { s with heap := s.heap.push { cls := .type "set", dict := none, data := .set #[] 0 (.fresh 0 0 (!byTx w)) } }) :
 codeAny (model prog w) A (.call (.builtin "set.__new__") ⟨[.type "set", a], []⟩) (wants Q₁ E) s := by
 refine codeAny_of_tree ?_
 show wpAny _ A.in1 (do checkBuiltinCall "set.__new__" ⟨[.type "set", a], []⟩; again (.builtin "set.__new__" ⟨[.type "set", a], []⟩)) _ _ s
 refine wpAny_bind (wpAny_of_eq (PySem.F.newCall_set_1 a) (wpAny_pure ⟨plainId_quiet PySem.F.plain_set_new _, codeAny_builtin PySem.F.entry_set_new ?_⟩))
 rw [Around.under_plainId PySem.F.plain_set_new _]
 unfold Builtin.«set.__new__» Builtin.Frozenset.newClass
 have hsub := sub_set_self
 obtain ⟨hp, g, d, tk, os⟩ := s
 dsimp only
 wp_walk
 refine wpAny_askSetting (wpAny_pure ?_)
 dsimp only
 simp only [newObj]
 refine wpAny_bind (wpAny_alloc (wpAny_pure ?_))
 exact wpAny_pure h
theorem zgo {h : Heap} {a : Addr} (e : h.get? a = some { cls := .type "set", dict := none, data := .set #[] 0 (.fresh 0 0 (!byTx w)) }) : TxSet prog w h a [] :=
 ⟨⟨#[], 0, _, e, fun e he => by simp at he, .nil, rfl, rfl, .inl rfl⟩, List.nodup_nil, by decide⟩
end
section
variable {prog : Program} {w : World} {A : Around} {E : Value → Shared → Prop} {s : Shared}
set_option maxHeartbeats 3200000 in
theorem zej {l : Addr} {items : Array Value} {ts : List Str} {Q : Value → Shared → Prop}
 (hh : A.handled = none) (hl : s.heap.IsList l items) (hi : StrsAre items.toList ts) (hb : ts.length + 1 < scanBound)
 (h : ∀ (h' : Heap) (tk : Nat) (ks : List Str), TxSet prog w h' s.heap.objs.size ks → ks.length ≤ ts.length → (∀ x, x ∈ ks ↔ x ∈ ts) →
  (∀ b o, b < s.heap.objs.size → s.heap.get? b = some o → h'.get? b = some o) → Q (.ref s.heap.objs.size) { s with heap := h', toks := tk }) :
 wpAny (model prog w) A (call (.type "set") [.ref l]) Q E s := by
 have hsz : items.size = ts.length := by rw [← Array.length_toList]; exact zbj hi
 obtain ⟨c, tl, hmro⟩ := PySem.F.called_set.mro
 have hmade := PySem.F.called_set.made
 have hsub := PySem.F.called_set.sub
 refine wpAny_call (codeAny_of_tree ?_)
 show wpAny _ _ (callAny (.type "set") _) _ _ _
 refine wpAny_pure ⟨Code.quiet_builtin _ (by decide +kernel), codeAny_builtin PySem.F.entry_type_call ?_⟩
 rw [Around.under_plain (weight_type_call_type "set" [.ref l] []) rfl]
 have h1 := PySem.F.called_set.notType
 have h2 := PySem.F.called_set.canCreate
 have hct := PySem.F.typeCall_set_1 (.ref l)
 repeat (any_goals (first | assumption | wp_step))
 refine codeAny_mono (zfM (.ref l) (E := E) (Q₁ := fun obj s₁ => obj = .ref s.heap.objs.size ∧ s₁ = { s with heap := s.heap.push { cls := .type "set", dict := none, data := .set #[] 0 (.fresh 0 0 (!byTx w)) } }) ⟨rfl, rfl⟩) fun r s₁ hr => ?_
 cases r with
 | error e => exact hr
 | ok fl =>
  cases fl with
  | ret obj =>
   obtain ⟨rfl, rfl⟩ := hr
   have hS : (s.heap.push { cls := .type "set", dict := none, data := .set #[] 0 (.fresh 0 0 (!byTx w)) }).get? s.heap.objs.size = some { cls := .type "set", dict := none, data := .set #[] 0 (.fresh 0 0 (!byTx w)) } := Heap.get?_push_size _ rfl
   have hT : Shared.TypeIs { s with heap := s.heap.push { cls := .type "set", dict := none, data := .set #[] 0 (.fresh 0 0 (!byTx w)) } } (.ref s.heap.objs.size) "set" := ⟨_, hS, rfl⟩
   have hli := PySem.F.called_set.init.lookup
   have hbi := PySem.F.called_set.init.bind (.ref s.heap.objs.size)
   repeat (any_goals (first | assumption | wp_step))
   refine codeAny_mono (codeAny_call_builtin (R := wants (fun r s₂ => r = .none ∧ ∃ h' tk ks, s₂ = { s with heap := h', toks := tk } ∧ TxSet prog w h' s.heap.objs.size ks ∧ ks.length ≤ ts.length ∧ (∀ x, x ∈ ks ↔ x ∈ ts) ∧
    (∀ b o, b < s.heap.objs.size → s.heap.get? b = some o → h'.get? b = some o)) E) PySem.F.called_set.init.plain PySem.F.entry_set_init (check_set_init_1 hT ?_)) fun r₂ s₂ hr₂ => ?_
   · obtain ⟨ol, hol, hcl, nl, hdl⟩ := hl
     obtain ⟨ocls, odict, odata, oslots⟩ := ol
     simp only at hcl hdl
     subst hcl; subst hdl
     have hol' : (s.heap.push { cls := .type "set", dict := none, data := .set #[] 0 (.fresh 0 0 (!byTx w)) }).get? l = some { cls := .type "list", dict := odict, data := .seq items nl, slots := oslots } := Heap.get?_push_of_some _ hol
     have hsls := PySem.F.sub_list_set
     have hslf := PySem.F.sub_list_frozenset
     have hne : (Value.type "list" == Value.type "dict") = false := by decide
     have hl1 : (s.heap.push { cls := .type "set", dict := none, data := .set #[] 0 (.fresh 0 0 (!byTx w)) }).IsList l items := ⟨_, hol', rfl, nl, rfl⟩
     unfold Builtin.«set.__init__» noKeywords Builtin.Frozenset.updateFrom
     generalize hPI : pyIter = PI
     wp_walk
     subst hPI
     refine wpAny_pyIter_list hl1 ?_
     refine wpAny_bind (wpAny_runValue ?_)
     have hlS : l < s.heap.objs.size := Heap.lt_size hol
     have hh3 : A.in1.in1.in1.handled = none := by simp [hh]
     have hneI : l ≠ (s.heap.push { cls := .type "set", dict := none, data := .set #[] 0 (.fresh 0 0 (!byTx w)) }).objs.size := by
      rw [Heap.size_push]; exact Nat.ne_of_lt (Nat.lt_succ_of_lt hlS)
     have hSf : s.heap.objs.size ∉ [(s.heap.push { cls := .type "set", dict := none, data := .set #[] 0 (.fresh 0 0 (!byTx w)) }).objs.size, l] := by
      rw [Heap.size_push]; simp only [List.mem_cons, List.mem_singleton, List.not_mem_nil, or_false, not_or]
      exact ⟨Nat.ne_of_lt (Nat.lt_succ_self _), Nat.ne_of_gt hlS⟩
     have hval : ∀ (i : Nat) (v : Value), items[i]? = some v → ∃ x t, v = .str x t ∧ ts[i]? = some x := fun i v hv =>
      zgN hi i v (by rw [Array.getElem?_toList]; exact hv)
     have W := (Walks.list (prog := prog) (w := w) hh3 (s.heap.push { cls := .type "set", dict := none, data := .set #[] 0 (.fresh 0 0 (!byTx w)) }).objs.size l hneI items).toS
     rw [hsz] at W
     refine zgK ts W s.heap.objs.size hSf hval hb (ts.length - 0) 0 _ [] (by omega) (Nat.zero_le _)
      ⟨⟨_, Heap.get?_push_size _ rfl, rfl, rfl⟩, (hl1.push _)⟩ (zgo (Heap.get?_push_of_some _ hS)) (Nat.le_refl _) (fun x => by simp) ?hR
     case hR =>
      intro s' ks hm hS' hlk hmk
      obtain ⟨h', g', d', tk', os'⟩ := s'
      have eg : g' = s.gens := hm.gens
      have ed : d' = s.drawn := hm.drawn
      have eo : os' = s.os := hm.os
      subst eg; subst ed; subst eo
      show wpAny _ _ _ _ _ _
      refine wpAny_pure ?_
      show wpAny _ _ (ret Value.none) _ _ _
      refine wpAny_pure ⟨rfl, h', tk', ks, rfl, hS', hlk, hmk, fun b o hb e => ?_⟩
      have hb1 : b ≠ s.heap.objs.size := Nat.ne_of_lt hb
      have hb2 : b ≠ (s.heap.push { cls := .type "set", dict := none, data := .set #[] 0 (.fresh 0 0 (!byTx w)) }).objs.size := by
       rw [Heap.size_push]; exact Nat.ne_of_lt (Nat.lt_succ_of_lt hb)
      exact hm.heap b o (by simp only [List.mem_cons, List.mem_singleton, List.not_mem_nil, or_false, not_or]; exact ⟨hb1, hb2⟩) (Heap.get?_push_of_some _ (Heap.get?_push_of_some _ e))
   · cases r₂ with
     | error e => exact hr₂
     | ok fl₂ =>
      cases fl₂ with
      | ret r =>
       obtain ⟨rfl, h', tk, ks, rfl, hS', hlk, hmk, hk'⟩ := hr₂
       repeat (any_goals (first | assumption | wp_step))
       exact h _ _ ks hS' hlk hmk hk'
      | _ => exact hr₂.elim
  | _ => exact hr.elim
end
theorem zgh {M : Model} {A : Around} {E : Value → Shared → Prop} {s : Shared} {src : Source} {n : Nat} {Q : Nat → Shared → Prop} (hn : 0 < n) (h : ∀ i d', i < n → Q i { s with drawn := d' }) :
 wpAny M A (choose src n) Q E s := fun Γ p hΓ => by
 show Sem.wp M Γ (.choose src n .pure) _ _ p s
 rw [Sem.wp_choose]
 exact ⟨by omega, h _ _ (Nat.mod_lt _ hn)⟩
theorem zcO {α : Type} : ∀ {l : List α} {i : Nat} {x : α}, l[i]? = some x → (x :: l.eraseIdx i).Perm l
 | [], i, x, h => by simp at h
 | y :: l, 0, x, h => by simp at h; subst h; exact .refl _
 | y :: l, i + 1, x, h => by
  rw [List.getElem?_cons_succ] at h
  rw [List.eraseIdx_cons_succ]
  exact (List.Perm.swap _ _ _).trans ((zcO h).cons _)
theorem zfQ {M : Model} {A : Around} {E : Value → Shared → Prop} {α : Type} : ∀ (n : Nat) (xs : List α) (s : Shared) {Q : List α → Shared → Prop}, xs.length ≤ n → (∀ ys d', ys.Perm xs → Q ys { s with drawn := d' }) →
 wpAny M A (drawOrder n xs) Q E s
 | 0, xs, s, Q, hn, h => by
  have : xs = [] := List.length_eq_zero_iff.mp (Nat.le_zero.mp hn)
  subst this
  exact wpAny_pure (h [] s.drawn (.refl _))
 | n + 1, [], s, Q, hn, h => wpAny_pure (h [] s.drawn (.refl _))
 | n + 1, x :: xs, s, Q, hn, h => by
  show wpAny M A (choose .order (x :: xs).length >>= _) Q E s
  refine wpAny_bind (zgh (by simp) fun i d1 hi => ?_)
  have hx : (x :: xs)[i]? = some (x :: xs)[i] := List.getElem?_eq_getElem hi
  rw [hx]
  show wpAny M A (drawOrder n ((x :: xs).eraseIdx i) >>= _) Q E _
  have hl : ((x :: xs).eraseIdx i).length ≤ n := by
   rw [List.length_eraseIdx, if_pos hi]
   simp at hn ⊢
   omega
  refine wpAny_bind (zfQ n _ _ hl fun ys d2 hp => wpAny_pure ?_)
  exact h _ d2 ((hp.cons _).trans (zcO hx))
theorem zg8 {α : Type} (next : Nat → Nat) : ∀ (n k : Nat) (left : List α) (out : Array α), left.length ≤ n → ((pickOrder.go next n k left out).toList).Perm (out.toList ++ left)
 | 0, k, left, out, h => by
  have : left = [] := List.length_eq_zero_iff.mp (Nat.le_zero.mp h)
  subst this
  simp [pickOrder.go]
 | n + 1, k, left, out, h => by
  unfold pickOrder.go
  split
  · rename_i x hx
    have hlt : next k % left.length < left.length := (List.getElem?_eq_some_iff.mp hx).1
    refine (zg8 next n (k + 1) _ _ ?_).trans ?_
    · rw [List.length_eraseIdx, if_pos hlt]; omega
    · rw [Array.toList_push, List.append_assoc]
      exact List.Perm.append_left _ (zcO hx)
  · rename_i hx
    cases left with
    | nil => simp
    | cons y l =>
     have : next k % (y :: l).length < (y :: l).length := Nat.mod_lt _ (by simp)
     rw [List.getElem?_eq_getElem this] at hx
     cases hx
theorem zey {α : Type} (next : Nat → Nat) (xs : Array α) : ((pickOrder next xs).toList).Perm xs.toList := by
 have := zg8 next xs.size 0 xs.toList #[] (by simp)
 simpa [pickOrder] using this
theorem zff (a : Addr) : setDrawn a = (do
 let (es, _, t) ← setState a
 let byText ← setsByText
 return !byText && (!t.plain && decide (es.size > 1))) := rfl
theorem zb6 (a : Addr) (slot given epochThen : Nat) : setNext a slot given epochThen = (do
 let (es, epoch, t) ← setState a
 if ← setsByText then
  if epoch != epochThen then unsupported "set_iterator.__next__:elements-changed"
  return ((← setWalk a)[given]?).map fun e => (e.2, slot)
 if (!t.plain && decide (es.size > 1)) then unsupported "set_iterator.__next__:the-table-is-plain-no-more"
 (do if !t.led && !es.isEmpty then unsupported "set:maker-not-led" : Sem Unit)
 let i := SetTable.below t.place slot
 return match es[i]?, t.place[i]? with
  | some (_, x), some j => some (x, j + 1)
  | _, _ => none) := rfl
namespace FS
theorem entry_set_iter : entryFor table "set.__iter__" = some Builtin.«frozenset.__iter__» := entryFor_alias (id' := "frozenset.__iter__") (by kernel_rfl) rfl (by decide +kernel) (by kernel_rfl)
theorem slot_si_next : Slot "set_iterator" "__next__" "set_iterator.__next__" :=
 .of (owner := "set_iterator") (n := "__next__") (by rw [typeLookup_type, builtinLookup_eq_fast]; kernel_rfl) (by decide +kernel) (by decide +kernel) (by decide +kernel)
  (by first | exact .inl (by decide +kernel) | exact .inr (by decide +kernel)) (by rw [isSubtype_type]; kernel_rfl)
theorem entry_si_next : entryFor table "set_iterator.__next__" = some Builtin.«set_iterator.__next__» := entryFor_of_tree (by kernel_rfl)
theorem args_si_next (a : Value) : argsOk "set_iterator.__next__" ⟨[a], []⟩ := by unfold argsOk; kernel_rfl
theorem slot_si_iter : Slot "set_iterator" "__iter__" "set_iterator.__iter__" :=
 .of (owner := "set_iterator") (n := "__iter__") (by rw [typeLookup_type, builtinLookup_eq_fast]; kernel_rfl) (by decide +kernel) (by decide +kernel) (by decide +kernel)
  (by first | exact .inl (by decide +kernel) | exact .inr (by decide +kernel)) (by rw [isSubtype_type]; kernel_rfl)
theorem entry_si_iter : entryFor table "set_iterator.__iter__" = some Builtin.«dict_keyiterator.__iter__» :=
 entryFor_alias (id' := "dict_keyiterator.__iter__") (by kernel_rfl) rfl (by decide +kernel) (by kernel_rfl)
theorem args_si_iter (a : Value) : argsOk "set_iterator.__iter__" ⟨[a], []⟩ := by unfold argsOk; kernel_rfl
end FS
abbrev zb5 (h : Heap) (I a : Addr) (first : Value) (i n ep : Nat) : Prop :=
 h.get? I = some { cls := .type "set_iterator", dict := none, data := .fields #[first, .int i 0, .ref a, .int n 0, .int ep 0] }
inductive SOrd (w : World) (a : Addr) (es : Array (Int × Value)) (ep : Nat) (t : SetTable) : (Nat → Value) → List Value → List (Addr × Obj) → Prop
 | drawn (T : Addr) (places : List Nat) (h0 : byTx w = false) (hp : places.Perm (List.range es.size)) (h2 : 1 < es.size) :
  SOrd w a es ep t (fun _ => .ref T) (places.filterMap fun p => (es[p]?).map (·.2)) [(T, { cls := .type "tuple", data := .seq (places.map fun (i : Nat) => rawInt i).toArray })]
 | text (h0 : byTx w = true) : SOrd w a es ep t (fun _ => rawInt 0) ((pickOrder (w.params.setOrder a ep) es).toList.map (·.2)) []
 | few (h0 : byTx w = false) (h2 : es.size ≤ 1) : SOrd w a es ep t (fun i => rawInt (if i = 0 then 0 else t.place.getD 0 0 + 1)) (es.toList.map (·.2)) []
theorem zis (es : Array (Int × Value)) : ((List.range es.size).filterMap fun p => (es[p]?).map (·.2)) = es.toList.map (·.2) := by
 have := filterMap_getElem?_range es
 rw [← this, List.map_filterMap]
theorem SOrd.perm {w : World} {a : Addr} {es : Array (Int × Value)} {ep : Nat} {t : SetTable} {f : Nat → Value} {vs : List Value} {ob : List (Addr × Obj)} (h : SOrd w a es ep t f vs ob) : vs.Perm (es.toList.map (·.2)) := by
 cases h with
 | drawn T places h0 hp h2 => rw [← zis]; exact hp.filterMap _
 | text h0 => exact (zey _ _).map _
 | few h0 h2 => exact .refl _
section
variable {prog : Program} {w : World} {A : Around} {E : Value → Shared → Prop} {s : Shared}
theorem za0 {Q : Bool → Shared → Prop} (h : Q (byTx w) s) : wpAny (model prog w) A setsByText Q E s := by
 unfold setsByText
 exact wpAny_bind (wpAny_askSetting (wpAny_pure h))
theorem zhC {a : Addr} {es : Array (Int × Value)} {ep : Nat} {t : SetTable} {Q : Value → Shared → Prop} (ho : s.heap.get? a = some { cls := .type "set", dict := none, data := .set es ep t })
 (hf : t.fits es.size = true) (hp : es.size = 0 ∨ t.plain = false) (hz : es.size ≤ sizeLine)
 (hQ : ∀ h' d' I f vs ob, SOrd w a es ep t f vs ob → s.heap.objs.size ≤ I → zb5 h' I a (f 0) 0 es.size ep → (∀ p ∈ ob, h'.get? p.1 = some p.2 ∧ s.heap.objs.size ≤ p.1 ∧ p.1 ≠ I) → (∀ b o, s.heap.get? b = some o → h'.get? b = some o) →
  I < h'.objs.size → (∀ p ∈ ob, p.1 < h'.objs.size) → Q (.ref I) { s with heap := h', drawn := d' }) :
 wpAny (model prog w) A (pyIter (.ref a)) Q E s := by
 have hT : s.TypeIs (.ref a) "set" := ⟨_, ho, rfl⟩
 refine wpAny_pyIter_slot hT PySem.F.slot_set_iter (wpAny_call_entry PySem.F.slot_set_iter hT FS.entry_set_iter ?_ (PySem.F.args_set_iter_1 _))
 unfold Builtin.«frozenset.__iter__» Builtin.Frozenset.slot0 Builtin.Frozenset.sizeOf
 refine wpAny_bind (wpAny_bind (m := slotArgs _ _ _) (wpAny_pure (wpAny_pure ?_)))
 refine wpAny_bind (wpAny_bind (wpAny_setEntries_of ho rfl hf (wpAny_pure ?_)))
 dsimp only
 rw [zff]
 refine wpAny_bind (wpAny_bind (wpAny_setState_of ho rfl hf (wpAny_bind (za0 (wpAny_pure ?_)))))
 by_cases hd : (!byTx w && (!t.plain && decide (es.size > 1))) = true
 · rw [if_pos hd]
   have hd' : byTx w = false ∧ 1 < es.size := by
    simp only [Bool.and_eq_true, Bool.not_eq_true', decide_eq_true_eq] at hd
    exact ⟨hd.1, hd.2.2⟩
   refine wpAny_bind (zfQ _ _ _ (by simp) fun ys d' hy => ?_)
   refine wpAny_bind (wpAny_newTuple ?_ (by rw [List.length_map, hy.length_eq, List.length_range]; exact hz))
   have ho2 : (s.heap.push { cls := .type "tuple", data := .seq (ys.map fun (i : Nat) => rawInt i).toArray }).get? a = some { cls := .type "set", dict := none, data := .set es ep t } := Heap.get?_push_of_some _ ho
   refine wpAny_bind (wpAny_setEpoch_of (s := { s with drawn := d', heap := s.heap.push { cls := .type "tuple", data := .seq (ys.map fun (i : Nat) => rawInt i).toArray } }) ho2 rfl hf ?_)
   refine wpAny_bind (wpAny_newObj_type (wpAny_pure ⟨_, rfl, "set_iterator", _, ⟨_, Heap.get?_push_size _ rfl, rfl⟩, FS.slot_si_next.lookup, ?_⟩))
   refine hQ _ d' _ _ _ _ (.drawn s.heap.objs.size ys hd'.1 hy hd'.2) ?_ (Heap.get?_push_size _ rfl) (fun p hp => ?_) (fun b o e => Heap.get?_push_of_some _ (Heap.get?_push_of_some _ e)) ?_ (fun p hp => ?_)
   · rw [Heap.size_push]; exact Nat.le_succ _
   · rw [List.mem_singleton] at hp
     subst hp
     exact ⟨Heap.get?_push_of_some _ (Heap.get?_push_size _ rfl), Nat.le_refl _, by rw [Heap.size_push]; exact Nat.ne_of_lt (Nat.lt_succ_self _)⟩
   · simp only [Heap.size_push]; omega
   · rw [List.mem_singleton] at hp
     subst hp
     show s.heap.objs.size < _
     simp only [Heap.size_push]; omega
 · rw [if_neg hd]
   refine wpAny_bind (wpAny_pure ?_)
   refine wpAny_bind (wpAny_setEpoch_of ho rfl hf ?_)
   refine wpAny_bind (wpAny_newObj_type (wpAny_pure ⟨_, rfl, "set_iterator", _, ⟨_, Heap.get?_push_size _ rfl, rfl⟩, FS.slot_si_next.lookup, ?_⟩))
   cases hb : byTx w with
   | true =>
    exact hQ _ s.drawn _ _ _ _ (.text hb) (Nat.le_refl _) (Heap.get?_push_size _ rfl) (fun p hp => nomatch hp) (fun b o e => Heap.get?_push_of_some _ e) (by rw [Heap.size_push]; exact Nat.lt_succ_self _) (fun p hp => nomatch hp)
   | false =>
    refine hQ _ s.drawn _ _ _ _ (.few hb ?_) (Nat.le_refl _) (Heap.get?_push_size _ rfl) (fun p hp => nomatch hp) (fun b o e => Heap.get?_push_of_some _ e) (by rw [Heap.size_push]; exact Nat.lt_succ_self _) (fun p hp => nomatch hp)
    rcases hp with h | h
    · omega
    · simp [hb, h] at hd
      exact hd
end
section
variable {prog : Program} {w : World} {A : Around} {E : Value → Shared → Prop} {s : Shared}
def SSt (w : World) (I a : Addr) (es : Array (Int × Value)) (ep : Nat) (t : SetTable) (f : Nat → Value) (ob : List (Addr × Obj)) (i : Nat) (h : Heap) : Prop :=
 zb5 h I a (f i) i es.size ep ∧ h.get? a = some { cls := .type "set", dict := none, data := .set es ep t } ∧ ∀ p ∈ ob, h.get? p.1 = some p.2
theorem zeY (p : Nat) : SetTable.below #[p] 0 = 0 ∧ SetTable.below #[p] (p + 1) = 1 := by
 constructor
 · simp [SetTable.below, SetTable.below.go]
 · simp [SetTable.below, SetTable.below.go]
theorem zbw {h : Heap} {I a : Addr} {first x : Value} {i n ep k : Nat} (hi : zb5 h I a first i n ep) (f : Array Value → Array Value) :
 (h.update I (Obj.mapFields f)).get? I = some { cls := .type "set_iterator", dict := none, data := .fields (f #[first, .int i 0, .ref a, .int n 0, .int ep 0]) } := by
 have := Heap.get?_update_self (Obj.mapFields f) hi rfl
 exact this
set_option maxHeartbeats 1000000 in
theorem zhj {I a : Addr} {es : Array (Int × Value)} {ep : Nat} {t : SetTable} {f : Nat → Value} {vs : List Value} {ob : List (Addr × Obj)} {i : Nat} {v : Value} {Q : Option Value → Shared → Prop}
 (hO : SOrd w a es ep t f vs ob) (hf : t.fits es.size = true) (hl : t.led = !byTx w) (hne : a ≠ I) (hob : ∀ p ∈ ob, p.1 ≠ I) (hS : SSt w I a es ep t f ob i s.heap) (hv : vs[i]? = some v)
 (hQ : ∀ h', SSt w I a es ep t f ob (i + 1) h' → Heap.SameBut I s.heap h' → Q (some v) { s with heap := h' }) :
 wpAny (model prog w) A (pyNext (.ref I)) Q E s := by
 obtain ⟨hi, ha, hbs⟩ := hS
 have hT : s.TypeIs (.ref I) "set_iterator" := ⟨_, hi, rfl⟩
 unfold pyNext
 refine wpAny_bind (wpAny_attempt (wpAny_callSpecial?_slot (name := Str.ofString "__next__") hT FS.slot_si_next
  (wpAny_call_entry FS.slot_si_next hT FS.entry_si_next ?_ (FS.args_si_next _))))
 unfold Builtin.«set_iterator.__next__»
 refine wpAny_bind (m := slotArgs _ _ _) (wpAny_pure ?_)
 dsimp only
 refine wpAny_bind (wpAny_fieldsOf hi rfl ?_)
 dsimp only
 refine wpAny_bind (wpAny_setEntries_of ha rfl hf ?_)
 rw [if_neg (by simp)]
 have hil : i < vs.length := (List.getElem?_eq_some_iff.mp hv).1
 have fin : ∀ (first : Value) (h' : Heap), Heap.SameBut I s.heap h' → zb5 h' I a (f (i + 1)) (i + 1) es.size ep → Q (some v) { s with heap := h' } := fun first h' sb hi' =>
  hQ h' ⟨hi', by rw [sb.2 a hne]; exact ha, fun p hp => by rw [sb.2 p.1 (hob p hp)]; exact hbs p hp⟩ sb
 cases hO with
 | drawn T places h0 hp h2 =>
  dsimp only
  have hTt := hbs _ (List.mem_singleton.mpr rfl)
  refine wpAny_bind (wpAny_seqItems hTt rfl ?_)
  have hpl : places.length = es.size := by rw [hp.length_eq, List.length_range]
  have hall : ∀ p ∈ places, p < es.size := fun p hm => by simpa using hp.mem_iff.mp hm
  have hfm : ∀ (l : List Nat), (∀ p ∈ l, p < es.size) → (l.filterMap fun p => (es[p]?).map (·.2)) = l.map fun p => (es.getD p (0, .none)).2 := by
   intro l
   induction l with
   | nil => intro _; rfl
   | cons q l ih =>
    intro hq
    have hq0 : q < es.size := hq q (by simp)
    have h1 : es[q]? = some es[q] := Array.getElem?_eq_getElem hq0
    rw [List.filterMap_cons, h1, List.map_cons, ← ih fun p hm => hq p (by simp [hm])]
    simp [Array.getD, hq0]
  rw [hfm places hall, List.getElem?_map] at hv
  cases hpi : places[i]? with
  | none => rw [hpi] at hv; cases hv
  | some pl =>
   rw [hpi] at hv
   have hlt : pl < es.size := hall pl (List.mem_of_getElem? hpi)
   have hvv : v = es[pl].2 := by
    have : (es.getD pl (0, .none)).2 = v := Option.some.inj hv
    rw [← this]
    simp [Array.getD, hlt]
   have hpi' : (places.map fun (i : Nat) => rawInt i).toArray[i]? = some (.int pl 0) := by
    rw [List.getElem?_toArray, List.getElem?_map, hpi]; rfl
   show wpAny _ _ (match (places.map fun (i : Nat) => rawInt i).toArray[(i : Int).toNat]? with | some (.int place _) => _ | some _ => _ | none => _) _ _ _
   rw [Int.toNat_natCast, hpi']
   dsimp only
   unfold setNextDrawn
   refine wpAny_bind (wpAny_bind (wpAny_setState_of ha rfl hf ?_))
   dsimp only
   rw [if_neg (by simp)]
   rw [Int.toNat_natCast, Array.getElem?_eq_getElem hlt]
   dsimp only
   refine wpAny_pure ?_
   refine wpAny_bind (wpAny_setField hi rfl (by simp) ?_)
   refine wpAny_pure ⟨_, rfl, wpAny_pure ?_⟩
   rw [← hvv]
   exact fin v _ (Heap.SameBut.update ..) (zbw (x := v) (k := 0) hi _)
 | text h0 =>
  show wpAny _ _ (setNext a 0 (i : Int).toNat (ep : Int).toNat >>= _) _ _ _
  rw [zb6, Int.toNat_natCast, Int.toNat_natCast]
  refine wpAny_bind (wpAny_bind (wpAny_setState_of ha rfl hf (wpAny_bind (za0 ?_))))
  rw [if_pos h0]
  dsimp only
  rw [if_neg (by simp)]
  unfold setWalk
  refine wpAny_bind (wpAny_bind (wpAny_setState_of ha rfl hf (wpAny_bind (za0 ?_))))
  rw [if_pos h0]
  refine wpAny_bind (wpAny_askSetting (wpAny_pure (wpAny_pure ?_)))
  rw [List.getElem?_map, Array.getElem?_toList] at hv
  cases hpk : (pickOrder (w.params.setOrder a ep) es)[i]? with
  | none => rw [hpk] at hv; cases hv
  | some e =>
   rw [hpk] at hv
   show wpAny _ _ (match ((pickOrder (w.params.setOrder a ep) es)[i]?).map fun e => (e.2, 0) with | some (x, next) => _ | none => _) _ _ _
   rw [hpk]
   have hvv : e.2 = v := Option.some.inj hv
   dsimp only [Option.map]
   refine wpAny_bind (wpAny_setField hi rfl (by simp) ?_)
   have hi1 := zbw (x := v) (k := 0) hi (·.setIfInBounds 0 (rawInt (0 : Nat)))
   refine wpAny_bind (wpAny_setField (s := { s with heap := s.heap.update I (Obj.mapFields (·.setIfInBounds 0 (rawInt (0 : Nat)))) }) hi1 rfl (by simp) ?_)
   refine wpAny_pure ⟨_, rfl, wpAny_pure ?_⟩
   rw [hvv]
   refine fin v _ ((Heap.SameBut.update ..).trans (Heap.SameBut.update ..)) ?_
   exact zbw (x := v) (k := 0) (i := i) (first := rawInt 0) (n := es.size) (ep := ep) (a := a) (by exact hi1) _
 | few h0 h2 =>
  have hi0 : i = 0 := by rw [List.length_map, Array.length_toList] at hil; omega
  subst hi0
  have hsz : es.size = 1 := by rw [List.length_map, Array.length_toList] at hil; omega
  show wpAny _ _ (setNext a 0 (0 : Int).toNat (ep : Int).toNat >>= _) _ _ _
  rw [zb6, Int.toNat_natCast]
  refine wpAny_bind (wpAny_bind (wpAny_setState_of ha rfl hf (wpAny_bind (za0 ?_))))
  rw [if_neg (by rw [h0]; simp)]
  dsimp only
  rw [if_neg (by simp [hsz])]
  rw [hl, h0]
  refine wpAny_bind (m := ite _ _ _) ?_
  rw [if_neg (by simp)]
  refine wpAny_pure ?_
  obtain ⟨p, hpp⟩ : ∃ p, t.place = #[p] := by
   have h1 : t.place.size = 1 := by
    simp only [SetTable.fits, Bool.and_eq_true, beq_iff_eq] at hf
    rw [hf.1, hsz]
   generalize t.place = tp at h1
   obtain ⟨pl⟩ := tp
   cases pl with
   | nil => simp at h1
   | cons p r => cases r with
    | nil => exact ⟨p, rfl⟩
    | cons q r => simp at h1
  obtain ⟨⟨eh, ev⟩, hes⟩ : ∃ e, es = #[e] := by
   obtain ⟨el⟩ := es
   cases el with
   | nil => simp at hsz
   | cons p r => cases r with
    | nil => exact ⟨p, rfl⟩
    | cons q r => simp at hsz
  subst hes
  have hvv : ev = v := by simpa using hv
  subst hvv
  rw [hpp, (zeY p).1]
  refine wpAny_pure ?_
  show wpAny _ _ (setField (.ref I) 0 (rawInt ((p + 1 : Nat) : Int)) >>= _) _ _ _
  refine wpAny_bind (wpAny_setField hi rfl (by simp) ?_)
  have hi1 := zbw (x := ev) (k := 0) hi (·.setIfInBounds 0 (rawInt ((p + 1 : Nat) : Int)))
  refine wpAny_bind (wpAny_setField (s := { s with heap := s.heap.update I (Obj.mapFields (·.setIfInBounds 0 (rawInt ((p + 1 : Nat) : Int)))) }) hi1 rfl (by simp) ?_)
  refine wpAny_pure ⟨_, rfl, wpAny_pure ?_⟩
  refine fin ev _ ((Heap.SameBut.update ..).trans (Heap.SameBut.update ..)) ?_
  have := zbw (x := ev) (k := 0) (i := 0) (first := rawInt ((p + 1 : Nat) : Int)) (n := 1) (ep := ep) (a := a) (by exact hi1) (·.setIfInBounds 1 (rawInt ((0 : Nat) + 1 : Int)))
  rw [hpp]
  exact this
end
section
variable {prog : Program} {w : World} {A : Around} {E : Value → Shared → Prop} {s : Shared}
theorem zdO {h1 : Heap} {I : Addr} {P : Fin → Shared → Prop} {Q : Option Value → Shared → Prop} (hh : A.handled = none) (sb : Heap.SameBut I s.heap h1) (hQ : ∀ h', Heap.ExtBut I s.heap h' → Q none { s with heap := h' }) :
 wpAny (model prog w) A.in1 (newExc (.type "StopIteration") [] >>= fun x => raiseNew x) P
  (fun e s' => wpAny (model prog w) A (do if ← isInstance e (.type "StopIteration") then pure none else throw e) Q E s') { s with heap := h1 } := by
 refine wpAny_bind ?_
 simp only [newExc, newTuple]
 refine wpAny_bind (wpAny_newObj_type ?_ (by size_fits))
 refine wpAny_bind (m := firstArgMember _ _) (wpAny_of_eq (a := Value.none) (by first | rfl | (simp only [firstArgMember]; rfl)) ?_)
 refine wpAny_newObj_type ?_ (by size_fits)
 simp only [raiseNew]
 refine wpAny_bind (wpAny_handled ?_)
 rw [show A.in1.handled = none from hh]
 refine wpAny_bind (wpAny_pure (wpAny_throw ?_))
 refine wpAny_bind (wpAny_isInstance (T := "StopIteration") (b := true) ⟨_, Heap.get?_push_size _ rfl, rfl⟩ isSubtype_stop ?_)
 exact wpAny_pure (hQ _ ((sb.extBut.push _).push _))
set_option maxHeartbeats 1000000 in
theorem ziu {I a : Addr} {es : Array (Int × Value)} {ep : Nat} {t : SetTable} {f : Nat → Value} {vs : List Value} {ob : List (Addr × Obj)} {Q : Option Value → Shared → Prop} (hh : A.handled = none)
 (hO : SOrd w a es ep t f vs ob) (hf : t.fits es.size = true) (hl : t.led = !byTx w) (hne : a ≠ I) (hob : ∀ p ∈ ob, p.1 ≠ I) (hS : SSt w I a es ep t f ob es.size s.heap)
 (hQ : ∀ h', Heap.ExtBut I s.heap h' → Q none { s with heap := h' }) :
 wpAny (model prog w) A (pyNext (.ref I)) Q E s := by
 obtain ⟨hi, ha, hbs⟩ := hS
 have hT : s.TypeIs (.ref I) "set_iterator" := ⟨_, hi, rfl⟩
 unfold pyNext
 refine wpAny_bind (wpAny_attempt (wpAny_callSpecial?_slot (name := Str.ofString "__next__") hT FS.slot_si_next
  (wpAny_call_entry FS.slot_si_next hT FS.entry_si_next ?_ (FS.args_si_next _))))
 unfold Builtin.«set_iterator.__next__»
 refine wpAny_bind (m := slotArgs _ _ _) (wpAny_pure ?_)
 dsimp only
 refine wpAny_bind (wpAny_fieldsOf hi rfl ?_)
 dsimp only
 refine wpAny_bind (wpAny_setEntries_of ha rfl hf ?_)
 rw [if_neg (by simp)]
 cases hO with
 | drawn T places h0 hp h2 =>
  dsimp only
  have hTt := hbs _ (List.mem_singleton.mpr rfl)
  refine wpAny_bind (wpAny_seqItems hTt rfl ?_)
  have hpl : places.length = es.size := by rw [hp.length_eq, List.length_range]
  have hpi' : (places.map fun (i : Nat) => rawInt i).toArray[es.size]? = none := by
   rw [List.getElem?_toArray, List.getElem?_map, List.getElem?_eq_none (by omega)]; rfl
  show wpAny _ _ (match (places.map fun (i : Nat) => rawInt i).toArray[(es.size : Int).toNat]? with | some (.int place _) => _ | some _ => _ | none => _) _ _ _
  rw [Int.toNat_natCast, hpi']
  dsimp only
  refine wpAny_bind (wpAny_setField hi rfl (by simp) ?_)
  have hi1 := zbw (x := .none) (k := 0) hi (·.setIfInBounds 0 (rawInt 0))
  refine wpAny_bind (wpAny_setField (s := { s with heap := s.heap.update I (Obj.mapFields (·.setIfInBounds 0 (rawInt 0))) }) hi1 rfl (by simp) ?_)
  exact zdO (s := s) (I := I) hh ((Heap.SameBut.update ..).trans (Heap.SameBut.update ..)) hQ
 | text h0 =>
  show wpAny _ _ (setNext a 0 (es.size : Int).toNat (ep : Int).toNat >>= _) _ _ _
  rw [zb6, Int.toNat_natCast, Int.toNat_natCast]
  refine wpAny_bind (wpAny_bind (wpAny_setState_of ha rfl hf (wpAny_bind (za0 ?_))))
  rw [if_pos h0]
  dsimp only
  rw [if_neg (by simp)]
  unfold setWalk
  refine wpAny_bind (wpAny_bind (wpAny_setState_of ha rfl hf (wpAny_bind (za0 ?_))))
  rw [if_pos h0]
  refine wpAny_bind (wpAny_askSetting (wpAny_pure (wpAny_pure ?_)))
  have hpk : (pickOrder (w.params.setOrder a ep) es)[es.size]? = none := by
   have h1 := (zey (w.params.setOrder a ep) es).length_eq
   rw [Array.length_toList, Array.length_toList] at h1
   exact Array.getElem?_eq_none (by omega)
  show wpAny _ _ (match ((pickOrder (w.params.setOrder a ep) es)[es.size]?).map fun e => (e.2, 0) with | some (x, next) => _ | none => _) _ _ _
  rw [hpk]
  dsimp only [Option.map]
  refine wpAny_bind (wpAny_setField hi rfl (by simp) ?_)
  exact zdO (s := s) (I := I) hh (Heap.SameBut.update ..) hQ
 | few h0 h2 =>
  show wpAny _ _ (setNext a (if es.size = 0 then (0 : Int) else (t.place.getD 0 0 : Int) + 1).toNat (es.size : Int).toNat (ep : Int).toNat >>= _) _ _ _
  rw [zb6, Int.toNat_natCast]
  refine wpAny_bind (wpAny_bind (wpAny_setState_of ha rfl hf (wpAny_bind (za0 ?_))))
  rw [if_neg (by rw [h0]; simp)]
  dsimp only
  rw [if_neg (by simp; intro _; omega)]
  rw [hl, h0]
  refine wpAny_bind (m := ite _ _ _) ?_
  rw [if_neg (by simp)]
  refine wpAny_pure ?_
  have hps : t.place.size = es.size := by
   simp only [SetTable.fits, Bool.and_eq_true, beq_iff_eq] at hf
   exact hf.1
  have hnone : es[SetTable.below t.place (if es.size = 0 then (0 : Int) else (t.place.getD 0 0 : Int) + 1).toNat]? = none := by
   generalize t.place = tp at hps
   obtain ⟨pl⟩ := tp
   cases pl with
   | nil =>
    have : es.size = 0 := by simpa using hps.symm
    exact Array.getElem?_eq_none (by omega)
   | cons p r =>
    cases r with
    | nil =>
     have h1 : es.size = 1 := by simpa using hps.symm
     rw [if_neg (by omega)]
     have : ((([p].toArray).getD 0 0 : Nat) : Int) + 1 = ((p + 1 : Nat) : Int) := rfl
     rw [this, Int.toNat_natCast, (zeY p).2]
     exact Array.getElem?_eq_none (by omega)
    | cons q r =>
     have : es.size = r.length + 2 := by simpa using hps.symm
     omega
  rw [hnone]
  refine wpAny_pure ?_
  show wpAny _ _ (setField (.ref I) 2 .none >>= _) _ _ _
  refine wpAny_bind (wpAny_setField hi rfl (by simp) ?_)
  exact zdO (s := s) (I := I) hh (Heap.SameBut.update ..) hQ
theorem zgV {I a : Addr} {first : Value} {i n ep : Nat} {Q : Value → Shared → Prop} (hi : zb5 s.heap I a first i n ep) (h : Q (.ref I) s) : wpAny (model prog w) A (pyIter (.ref I)) Q E s := by
 have hT : s.TypeIs (.ref I) "set_iterator" := ⟨_, hi, rfl⟩
 refine wpAny_pyIter_slot hT FS.slot_si_iter (wpAny_call_entry FS.slot_si_iter hT FS.entry_si_iter ?_ (FS.args_si_iter _))
 show wpAny _ _ (ret (.ref I)) _ _ s
 exact wpAny_pure ⟨_, rfl, "set_iterator", _, hT, FS.slot_si_next.lookup, h⟩
end
theorem zgj {prog : Program} {w : World} {A : Around} {I a : Addr} {es : Array (Int × Value)} {ep : Nat} {t : SetTable} {f : Nat → Value} {vs : List Value} {ob : List (Addr × Obj)} (hh : A.handled = none)
 (hO : SOrd w a es ep t f vs ob) (hf : t.fits es.size = true) (hl : t.led = !byTx w) (hne : a ≠ I) (hob : ∀ p ∈ ob, p.1 ≠ I) :
 Walks prog w A I (I :: a :: ob.map (·.1)) [I] es.size (fun i v => vs[i]? = some v) (SSt w I a es ep t f ob) where
 sub := fun b hb => by simp at hb; simp [hb]
 frame := fun i h h' st hk => ⟨hk I (by simp) _ st.1, hk a (by simp) _ st.2.1, fun p hp => hk p.1 (by simp; exact .inr (.inr ⟨p.2, hp⟩)) _ (st.2.2 p hp)⟩
 item := fun i s Q E hi st hQ => by
  have hlen : vs.length = es.size := by rw [hO.perm.length_eq, List.length_map, Array.length_toList]
  refine zhj hO hf hl hne hob st (v := vs[i]'(by omega)) (List.getElem?_eq_getElem (by omega)) fun h' st' sb => ?_
  exact hQ _ h' s.toks (List.getElem?_eq_getElem (by omega)) st' fun b o hb e => sb.extBut b o (fun h => hb (by simp [h])) e
 done := fun s Q E st hQ => ziu hh hO hf hl hne hob st fun h' he' => hQ h' s.toks fun b o hb e => he' b o (fun h => hb (by simp [h])) e
 self := fun _ _ _ _ st hQ => zgV st.1 hQ
namespace FS
theorem set_len : typeLookup (.type "set") "__len__" = pure (some (.builtin "set.__len__")) := by rw [typeLookup_type, builtinLookup_eq_fast]; kernel_rfl
theorem split_set_len : splitId "set.__len__" = some ("set", "__len__") := by decide +kernel
end FS
section
variable {prog : Program} {w : World} {A : Around} {E : Value → Shared → Prop} {s : Shared}
theorem zhI {a : Addr} {Q : Bool → Shared → Prop} (hT : s.TypeIs (.ref a) "set") (h : Q false s) : wpAny (model prog w) A (Builtin.List.listLengthHint (.ref a)) Q E s := by
 unfold Builtin.List.listLengthHint
 refine wpAny_bind (wpAny_specialOf hT FS.set_len ?_)
 dsimp only
 generalize hid : ("set.__len__" : String) = id0
 rw [show splitId id0 = some ("set", "__len__") from by subst hid; exact FS.split_set_len]
 subst hid
 dsimp only
 refine wpAny_bind (wpAny_isInstance (b := true) hT sub_set_self ?_)
 simp only [Bool.not_true, Bool.false_eq_true, if_false]
 refine wpAny_bind (wpAny_typeOf hT (wpAny_pure h))
set_option maxHeartbeats 1000000 in
theorem zeO {a : Addr} {ks : List Str} {Q : List Value → Shared → Prop} (hh : A.handled = none) (T : TxSet prog w s.heap a ks)
 (hQ : ∀ h' d' tk vs js, StrsAre vs js → js.Perm ks → s.heap.objs.size < h'.objs.size → (∀ b o, s.heap.get? b = some o → h'.get? b = some o) → Q vs { s with heap := h', drawn := d', toks := tk }) :
 wpAny (model prog w) A (collect (.ref a)) Q E s := by
 obtain ⟨⟨es, ep, t, ho, hel, hks, hf, hled, hpl⟩, hnd, hfew⟩ := T
 have hsz : es.size = ks.length := by rw [← zbj hks, List.length_map, Array.length_toList]
 have haS : a < s.heap.objs.size := Heap.lt_size ho
 unfold collect
 refine wpAny_bind (wpAny_runValue (codeAny_builtin PySem.F.entry_proto_collect ?_))
 rw [Around.under_plainId PySem.F.plain_proto_collect _]
 show wpAny _ A.in1 (newList [] >>= fun l => again (.builtin "list.__iadd__" ⟨[l, .ref a], []⟩)) _ _ s
 refine wpAny_bind (wpAny_newObj_type ?_)
 refine wpAny_pure ⟨plainId_quiet PySem.F.plain_list_iadd _, codeAny_builtin PySem.F.entry_list_iadd ?_⟩
 rw [Around.under_plainId PySem.F.plain_list_iadd _]
 generalize hh1 : s.heap.push { cls := .type "list", data := .seq ([] : List Value).toArray } = h1
 have hk1 : ∀ b o, s.heap.get? b = some o → h1.get? b = some o := fun b o e => by rw [← hh1]; exact Heap.get?_push_of_some _ e
 have hS1 : h1.get? s.heap.objs.size = some { cls := .type "list", data := .seq ([] : List Value).toArray } := by rw [← hh1]; exact Heap.get?_push_size _ rfl
 have hz1 : s.heap.objs.size < h1.objs.size := Heap.lt_size hS1
 show wpAny _ A.in1 (Builtin.List.listExtendWith (.ref s.heap.objs.size) (.ref a) (.ref s.heap.objs.size)) _ _ { s with heap := h1 }
 unfold Builtin.List.listExtendWith
 have hT1 : Shared.TypeIs { s with heap := h1 } (.ref a) "set" := ⟨_, hk1 _ _ ho, rfl⟩
 refine wpAny_bind (wpAny_typeOf hT1 ?_)
 have e1 : Builtin.List.listSameRef (.ref s.heap.objs.size) (.ref a) = false := by
  unfold Builtin.List.listSameRef
  exact beq_eq_false_iff_ne.mpr (Ne.symm (Nat.ne_of_lt haS))
 rw [if_neg (by rw [e1]; decide)]
 refine wpAny_bind (zhC (s := { s with heap := h1 }) (hk1 _ _ ho) hf hpl (by rw [hsz]; exact fits_of_scanBound hfew) fun h2 d2 I f vs ob hO hI hi hob hk2 hI2 hob2 => ?_)
 refine wpAny_bind (wpAny_holding (zhI (s := { s with heap := h2, drawn := d2 }) ⟨_, hk2 _ _ (hk1 _ _ ho), rfl⟩ ?_))
 rw [if_pos (by decide)]
 refine wpAny_bind (wpAny_rule ?_)
 have hS2 : h2.get? s.heap.objs.size = some { cls := .type "list", data := .seq ([] : List Value).toArray } := hk2 _ _ hS1
 refine wpAny_bind ?_
 show wpAny _ A.in1 (updateSeq s.heap.objs.size (·.push .none) >>= fun _ => updateSeq s.heap.objs.size (·.pop)) _ _ { s with heap := h2, drawn := d2 }
 refine wpAny_bind (wpAny_updateSeq hS2 rfl ?_)
 have hS3 := Heap.get?_update_self (Obj.mapSeq (·.push Value.none)) hS2 rfl
 refine wpAny_updateSeq hS3 rfl ?_
 have hS4 := Heap.get?_update_self (Obj.mapSeq (·.pop)) hS3 rfl
 have oth : ∀ b o, b ≠ s.heap.objs.size → h2.get? b = some o → ((h2.update s.heap.objs.size (Obj.mapSeq (·.push Value.none))).update s.heap.objs.size (Obj.mapSeq (·.pop))).get? b = some o :=
  fun b o hb e => (Heap.get?_update_other _ _ (Ne.symm hb)).trans ((Heap.get?_update_other _ _ (Ne.symm hb)).trans e)
 have hIne : I ≠ s.heap.objs.size := Ne.symm (Nat.ne_of_lt (Nat.lt_of_lt_of_le hz1 hI))
 have hane : a ≠ I := Nat.ne_of_lt (Nat.lt_of_lt_of_le haS (Nat.le_trans (Nat.le_of_lt hz1) hI))
 have hobne : ∀ p ∈ ob, p.1 ≠ s.heap.objs.size := fun p hp => Ne.symm (Nat.ne_of_lt (Nat.lt_of_lt_of_le hz1 (hob p hp).2.1))
 have W := (zgj (prog := prog) (A := A.in1) (by simpa using hh) hO hf hled hane (fun p hp => (hob p hp).2.2)).toS
 have hlen : vs.length = es.size := by rw [hO.perm.length_eq, List.length_map, Array.length_toList]
 obtain ⟨js, hjs, hjp⟩ := zbU hO.perm hks
 refine wpAny_pure ⟨plainId_quiet PySem.F.plain_extend_loop _, codeAny_extend_loopS W (by rw [hsz]; exact fits_of_scanBound hfew) s.heap.objs.size ?_ _ es.size 0 _ _ _ rfl (Nat.zero_le _)
  ⟨oth _ _ hIne hi, oth _ _ (Nat.ne_of_lt haS) (hk2 _ _ (hk1 _ _ ho)), fun p hp => oth _ _ (hobne p hp) (hob p hp).1⟩ hS4 (ItemsOf.nil _) fun s' acc' c' hm hS' hacc => ?_⟩
 · intro hmem
   rw [List.mem_cons, List.mem_cons, List.mem_map] at hmem
   rcases hmem with h | h | ⟨p, hp, h⟩
   · exact hIne h.symm
   · exact Nat.ne_of_lt haS h.symm
   · exact hobne p hp h
 · show wpAny _ A (load s.heap.objs.size >>= _) _ _ s'
   refine wpAny_bind (wpAny_load hS' ?_)
   have hav : acc'.toList = vs := by
    apply List.ext_getElem?
    intro j
    by_cases hj : j < es.size
    · have hj' : j < acc'.size := by rw [hacc.1]; exact hj
      have h1 : acc'.toList[j]? = some acc'[j] := by rw [Array.getElem?_toList]; exact Array.getElem?_eq_getElem hj'
      rw [h1]
      exact (hacc.2 j _ (Array.getElem?_eq_getElem hj')).symm
    · rw [List.getElem?_eq_none (by rw [Array.length_toList, hacc.1]; omega), List.getElem?_eq_none (by omega)]
   obtain ⟨h', g', d', tk', os'⟩ := s'
   have eg : g' = s.gens := hm.gens
   have ed : d' = d2 := hm.drawn
   have eo : os' = s.os := hm.os
   subst eg; subst ed; subst eo
   refine wpAny_pure ?_
   rw [hav]
   refine hQ h' d' tk' vs js hjs hjp (Heap.lt_size hS') fun b o e => ?_
   have hb : b < s.heap.objs.size := Heap.lt_size e
   refine hm.heap b o ?_ (oth b o (Nat.ne_of_lt hb) (hk2 _ _ (hk1 _ _ e)))
   have h0 : h1.objs.size ≤ I := hI
   simp only [List.mem_cons, List.not_mem_nil, or_false, not_or]
   exact ⟨Nat.ne_of_lt hb, Nat.ne_of_lt (Nat.lt_of_lt_of_le hb (Nat.le_trans (Nat.le_of_lt hz1) hI))⟩
end
section
variable {prog : Program} {w : World} {A : Around} {E : Value → Shared → Prop} {s : Shared}
theorem zfb {a : Addr} {ks : List Str} {Q : Value → Shared → Prop} (hh : A.handled = none) (T : TxSet prog w s.heap a ks) (h64 : ks.length < 64)
 (h : ∀ (p : Addr) (h' : Heap) (d' : Drawn) (tk : Nat) (out : Array Value) (ms : List Str) (e : Nat), StrsAre out.toList ms → ms.Perm ks → sortedS ms = true → s.heap.objs.size ≤ p → h'.get? p = some (seqObj "list" out e) →
  (∀ b o, s.heap.get? b = some o → h'.get? b = some o) → Q (.ref p) { s with heap := h', drawn := d', toks := tk }) :
 wpAny (model prog w) A (call (.builtin "sorted") [.ref a]) Q E s := by
 refine Calls.call_function_entry kind_sorted plain_sorted entry_sorted (args_sorted1 _) ?_
 unfold Builtin.«sorted»
 refine wpAny_bind (m := checkCount "sorted" 1 1 _) (wpAny_pure ?_)
 refine wpAny_bind (zeO (by simpa using hh) T fun h1 d1 tk1 vs js hv hp hz hk => ?_)
 have hvl : vs.length = ks.length := by rw [zbj hv, hp.length_eq]
 refine wpAny_bind (wpAny_newList ?_ (by rw [sizeLine_eq]; omega))
 have hoL : (h1.push (seqObj "list" vs.toArray 0)).get? h1.objs.size = some (seqObj "list" vs.toArray 0) := Heap.get?_push_size _ rfl
 show wpAny _ _ (holding _ _ >>= _) _ _ { s with heap := h1.push (seqObj "list" vs.toArray 0), drawn := d1, toks := tk1 }
 refine wpAny_bind (wpAny_holding (wpAny_call_entry slot_list_sort ⟨_, hoL, rfl⟩ entry_list_sort (list_sort_treeK strKind_oneLt hoL hv.keysOf (fun v₁ v₂ rest e => keyKind_strs (by rw [← e]; exact hv)) (by omega) fun st' a1 a2 => ⟨_, rfl, ?_⟩) (args_list_sort _)))
 obtain ⟨ms, m1, m2, m3⟩ := sorted_out_str hv a1 a2
 obtain ⟨e, he⟩ := sortedHeap_at (out := (arrOf st').map (·.2)) hoL
 refine wpAny_pure ⟨_, rfl, h h1.objs.size _ d1 tk1 _ ms e m1 (m2.trans hp) m3 (Nat.le_of_lt hz) he fun b o eb => ?_⟩
 · have hb : b < h1.objs.size := Heap.lt_size (hk b o eb)
   rw [sortedHeap_old (Nat.ne_of_lt hb) (by rw [size_push']; exact Nat.lt_succ_of_lt hb)]
   exact Heap.get?_push_of_some _ (hk b o eb)
end
section
variable {X : Cx} {e : Expr} {te : TE} {pos p2 p3 p4 : Pos}
def zh0 (K : PySem.W.Frag) (te : TE) : TE := fun σ H Q => te σ H fun x H1 => ∃ (a : Addr) (ts : List Str), [x] = [V.ref a] ∧ SqL K H1 a (ts.map V.str) ∧ ts.length < 64 ∧
 ∀ (p : Addr) (ms : List Str), ms.Nodup → (∀ x, x ∈ ms ↔ x ∈ ts) → ms.length ≤ ts.length → sortedS ms = true → H1 p = none → Q (.ref p) (upd H1 p (.lst (ms.map V.str)))
theorem zgt (hc : X.calm = true) (he : PE X e te) (hg : Gl X "sorted") (hm : X.mg "sorted" = none) (hg2 : Gl X "set") (hm2 : X.mg "set" = none)
 (h1 : starEach [e] X.env = (false, eval e X.env) :: starEach [] X.env := by rfl)
 (h2 : starEach [.Call (.Name "set" p2) [e] [] p3] X.env = (false, eval (.Call (.Name "set" p2) [e] [] p3) X.env) :: starEach [] X.env := by rfl)
 (h3 : (backTo p3 (starEach [] X.env)).any (·.1) = false := by rfl) (h4 : (backTo pos (starEach [] X.env)).any (·.1) = false := by rfl) :
 PE X (.Call (.Name "sorted" p4) [.Call (.Name "set" p2) [e] [] p3] [] pos) (zh0 X.K te) := by
 intro pins s σ H Q I h
 refine wpAny_Call_Name_kw (zcX I hg hm zeS ?_ (by decide) (by decide))
 refine PyProof.Rows.callWith_builtin1 ?_ h2 h4
 rw [h2]
 show wpAny _ _ (spliced ((false, eval (.Call (.Name "set" p2) [e] [] p3) X.env) :: backTo pos (starEach [] X.env))) _ _ s
 refine Calls.spliced_cons ?_
 refine wpAny_Call_Name_kw (zcX I hg2 hm2 zj3 ?_ (by decide) (by decide))
 refine PyProof.Rows.callWith_type1 (thn (zaa he zab h1 p3 pins s σ H (fun vs H1 => ∃ (a : Addr) (ts : List Str), vs = [.ref a] ∧ SqL X.K H1 a (ts.map V.str) ∧ ts.length < 64 ∧
  ∀ (p : Addr) (ms : List Str), ms.Nodup → (∀ x, x ∈ ms ↔ x ∈ ts) → ms.length ≤ ts.length → sortedS ms = true → H1 p = none → Q (.ref p) (upd H1 p (.lst (ms.map V.str)))) I ?_) fun us s1 ⟨vs, H1, I1, r1, a, ts, hv, hq, hn, q⟩ => ?_) h1 h3
 · exact h
 subst hv
 obtain ⟨u1, rfl, v1⟩ := zeo r1
 cases v1
 obtain ⟨its, rv, ht, hz⟩ := I1.list hq
 refine zej (I1.ok.hd hc) ht.isList (ts := ts) (by simpa using zdC rv) (by unfold scanBound; omega) fun h' tk ks hT hl hmem kp => ?_
 have I2 : Inv X pins σ H1 { s1 with heap := h', toks := tk } := I1.kept fun b o e => kp b o (Heap.lt_size e) e
 refine Calls.spliced_nil ?_
 refine zfb (s := { s1 with heap := h', toks := tk }) (I1.ok.hd hc) hT (by omega) fun p h2 d2 tk2 out ms ee a1 a2 a3 a4 a5 a6 => ?_
 have hn1 : H1 p = none := I2.hok.fresh a4
 have I3 : Inv X pins σ H1 { s1 with heap := h', drawn := d2, toks := tk } := ⟨I2.ok, I2.os, I2.bare, I2.base, I2.loc, I2.cell, I2.free, I2.freeC, I2.pin, I2.hok, I2.len⟩
 refine ⟨.ref p, upd H1 p (.lst (ms.map V.str)), I3.laid (t' := tk2) a6 a4 ?_, rfl, q p ms (a2.nodup_iff.mpr hT.nodup) (fun x => (a2.mem_iff).trans (hmem x)) (by rw [a2.length_eq]; exact hl) a3 hn1⟩
 have hlen : ms.length ≤ ts.length := by rw [a2.length_eq]; exact hl
 exact ⟨by rw [List.length_map, sizeLine_eq]; omega, out.toList, ee, zcT a1, by simpa [seqObj] using a5⟩
end
theorem zi0 {x y : Str} (h : x.cps.toList = y.cps.toList) : x = y := by
 obtain ⟨a⟩ := x
 obtain ⟨b⟩ := y
 congr
 exact Array.toList_inj.mp h
theorem zhp {x y : Str} (h : ¬ ltF x y) (n : x ≠ y) : ltF y x := by
 unfold ltF at *
 rcases Std.lt_trichotomy (α := List Nat) x.cps.toList y.cps.toList with h1 | h1 | h1
 · exact absurd h1 h
 · exact absurd (zi0 h1) n
 · exact h1
theorem zhq {x y z : Str} (h : ltF x y) (h2 : ltF y z) : ltF x z := List.lt_trans h h2
theorem zev : ∀ (r : List Str) (p : Str), risingS p r = true → (p :: r).Nodup → (p :: r).Pairwise ltF
 | [], p, _, _ => List.pairwise_singleton _ _
 | x :: r, p, h, n => by
  unfold risingS at h
  rw [Bool.and_eq_true, Bool.not_eq_true', ltCps_eq, decide_eq_false_iff_not] at h
  rw [List.nodup_cons] at n
  have px : ltF p x := zhp (x := x) (y := p) h.1 (fun e => n.1 (by rw [← e]; exact List.mem_cons_self))
  have ih := zev r x h.2 n.2
  rw [List.pairwise_cons]
  refine ⟨fun y hy => ?_, ih⟩
  rcases List.mem_cons.mp hy with rfl | hy
  · exact px
  · exact zhq px ((List.pairwise_cons.mp ih).1 y hy)
theorem zgT {ms : List Str} (h : sortedS ms = true) (n : ms.Nodup) : ms.Pairwise ltF := by
 cases ms with
 | nil => exact .nil
 | cons x r => exact zev r x h n
def zcK : Sp := fun vs H Q _ => ∃ (b g l : Addr) (n : Int), vs = [.ref b] ∧ Bag H b g l n ∧ n ≤ 10 ^ 8 ∧ ∀ (x : Str) (H' : Hp), FieldOk x → Bag H' b g l (n + 12) → SameB b g H H' → Q (.str x) H'
def zcn : Sp := fun vs H Q _ => ∃ (b g l : Addr) (n most : Int), vs = [.ref b, .int most] ∧ Bag H b g l n ∧ n ≤ 10 ^ 7 ∧ 0 ≤ most ∧ most ≤ 9 ∧
 ∀ (r : Addr) (fs : List Str) (H' : Hp), H r = none → H' r = some (.lst (fs.map V.str)) → fs.Pairwise ltF → (∀ f ∈ fs, FieldOk f) → (fs.length : Int) ≤ most → Bag H' b g l (n + 200) → SameB b g H H' → Q (.ref r) H'
theorem az : ("abcdefghijklmnopqrstuvwxyz" : Str).cps.toList = (List.range 26).map (· + 97) := by decide +kernel
theorem zj4 {r : Int} (h0 : 0 ≤ r) (h1 : r < 26) : ∃ c, atI ("abcdefghijklmnopqrstuvwxyz" : Str).cps.toList r = some c ∧ zbh c = true := by
 rw [az]
 obtain ⟨k, rfl⟩ : ∃ k : Nat, r = k := ⟨r.toNat, by omega⟩
 have hk : k < 26 := by omega
 refine ⟨k + 97, ?_, ?_⟩
 · refine za4 ?_
   rw [List.getElem?_map, List.getElem?_range hk]
   rfl
 · unfold zbh
   rw [Bool.and_eq_true]
   exact ⟨decide_eq_true (by omega), decide_eq_true (by omega)⟩
theorem zdI : ∀ (cs : List Nat), (Txt.join ("" : Str) (cs.map fun c => (⟨#[c]⟩ : Str))).cps.toList = cs
 | [] => rfl
 | [c] => rfl
 | c :: d :: r => by
  have ih := zdI (d :: r)
  have e : ∀ (ts : List Str), Txt.join ("" : Str) ts = Str.join ("" : Str) ts := fun ts => StrLaws.glued_eq_join _ _
  rw [e] at ih ⊢
  show ((⟨#[c]⟩ : Str) ++ ("" : Str) ++ Str.join ("" : Str) ((d :: r).map fun c => (⟨#[c]⟩ : Str))).cps.toList = _
  have : ((⟨#[c]⟩ : Str) ++ ("" : Str) ++ Str.join ("" : Str) ((d :: r).map fun c => (⟨#[c]⟩ : Str))).cps.toList = c :: (Str.join ("" : Str) ((d :: r).map fun c => (⟨#[c]⟩ : Str))).cps.toList := by
   show (#[c] ++ #[] ++ _ : Array Nat).toList = _
   simp
  rw [this, ih]
theorem zhz (cs : List Nat) (h : cs.length ≤ 1000) : JoinOk ("" : Str) (cs.map fun c => (⟨#[c]⟩ : Str)) = true := by
 unfold JoinOk
 rw [Bool.not_eq_true']
 refine StrLaws.joinFits (B := 1) (fun y hy => ?_) ?_
 · obtain ⟨c, _, rfl⟩ := List.mem_map.mp hy
   exact Nat.le_refl 1
 · rw [List.length_map]
   show cs.length * 1 + cs.length * 0 ≤ _
   omega
theorem zdJ {cs : List Nat} (h1 : 1 ≤ cs.length) (h8 : cs.length ≤ 8) (ok : ∀ c ∈ cs, zbh c = true) : FieldOk (Txt.join ("" : Str) (cs.map fun c => (⟨#[c]⟩ : Str))) := by
 have e := zdI cs
 have hl : (Txt.join ("" : Str) (cs.map fun c => (⟨#[c]⟩ : Str))).length = cs.length := by
  show Array.size _ = _
  rw [← Array.length_toList, e]
 exact ⟨by rw [hl]; exact h1, by rw [hl]; exact h8, by rw [e]; exact ok⟩
theorem SameB.off {b g p : Addr} {H H' : Hp} {o : HO} (s : SameB b g H H') (hp : H p = none) : SameB b g H (upd H' p o) := fun a x h n1 n2 => by
 have : a ≠ p := fun e => by rw [e, hp] at h; cases h
 rw [zal this]
 exact s a x h n1 n2
theorem Bag.off {b g l p : Addr} {n : Int} {H : Hp} {o : HO} (B : Bag H b g l n) (pb : p ≠ b) (pg : p ≠ g) (pl : p ≠ l) : Bag (upd H p o) b g l n := by
 obtain ⟨gs, ls, c, st, e1, e2, e3, r⟩ := B.ex
 exact ⟨⟨gs, ls, c, st, by rw [zal pb.symm]; exact e1, by rw [zal pg.symm]; exact e2, by rw [zal pl.symm]; exact e3, r⟩, B.gl⟩
theorem SameB.none {b g p : Addr} {H H' : Hp} (s : SameB b g H H') (hp : H' p = none) (pb : p ≠ b) (pg : p ≠ g) : H p = none := by
 cases e : H p with
 | none => rfl
 | some o => rw [s p o e pb pg] at hp; cases hp
namespace FS
end FS
section
variable {prog : Program} {w : World} {A : Around} {E : Value → Shared → Prop} {s : Shared}
variable {κ : Type} [DecidableEq κ] {knd : PySem.KeyKind prog w κ}
end
section
variable {X : Cx}
end
section
variable {X : Cx}
end
structure WDrawn (w : List WP) : Prop where
 len : w.length ≤ 9
 ok : ∀ p ∈ w, FieldOk p.1 ∧ Good p.2.1 p.2.2
 asc : (w.map (·.1)).Pairwise ltF
theorem WDrawn.wok {w : List WP} (h : WDrawn w) : WOk w := ⟨by have := h.len; omega, fun p hp => ⟨(h.ok p hp).1, (h.ok p hp).2.le⟩, h.asc⟩
structure FieldsAt (H : Hp) (b g : Addr) (a : Addr) (fs : List Str) : Prop where
 at' : H a = some (.lst (fs.map V.str))
 nb : a ≠ b
 ng : a ≠ g
 len : fs.length ≤ 9
 ok : ∀ f ∈ fs, FieldOk f
 asc : fs.Pairwise ltF
theorem FieldsAt.sameB {H H' : Hp} {b g a : Addr} {fs : List Str} (h : FieldsAt H b g a fs) (s : SameB b g H H') : FieldsAt H' b g a fs := ⟨s _ _ h.at' h.nb h.ng, h.nb, h.ng, h.len, h.ok, h.asc⟩
def zc9 : Sp := fun vs H Q _ => ∃ (b g l fl : Addr) (n : Int) (fs : List Str), vs = [.ref b, .ref fl] ∧ Bag H b g l n ∧ n ≤ 10 ^ 7 ∧ FieldsAt H b g fl fs ∧
 ∀ (r : Addr) (w : List WP) (H' : Hp), WishAt H' r w → WDrawn w → Bag H' b g l (n + 100) → SameB b g H H' → Q (.ref r) H'
theorem WishAt.sameB {H H' : Hp} {b g l : Addr} {n : Int} {a : Addr} {w : List WP} (h : WishAt H a w) (B : Bag H b g l n) (s : SameB b g H H') : WishAt H' a w := h.keep fun _ _ e => s.tup B e
theorem zef (o : Option Int) : zay (dE o) = 0 := by cases o <;> rfl
theorem zks {c : Nat} (h : zbh c = true) : (Builtin.Str.occurrences ("abcdefghijklmnopqrstuvwxyz" : Str) (⟨#[c]⟩ : Str) 0 ("abcdefghijklmnopqrstuvwxyz" : Str).length 1).isEmpty = false := by
 have h1 : 97 ≤ c := of_decide_eq_true ((Bool.and_eq_true _ _).mp h).1
 have h2 : c ≤ 122 := of_decide_eq_true ((Bool.and_eq_true _ _).mp h).2
 have all : ∀ k : Fin 26, (Builtin.Str.occurrences ("abcdefghijklmnopqrstuvwxyz" : Str) (⟨#[k.val + 97]⟩ : Str) 0 ("abcdefghijklmnopqrstuvwxyz" : Str).length 1).isEmpty = false := by decide +kernel
 have := all ⟨c - 97, by omega⟩
 rw [show (⟨c - 97, by omega⟩ : Fin 26).val + 97 = c from by show c - 97 + 97 = c; omega] at this
 exact this
def zbV : Sp := fun vs H Q _ => ∃ x : Str, vs = [.str x] ∧ FieldOk x ∧ ∀ H', Same H H' → Q (.bl true) H'
def zcm : Sp := fun vs H Q _ => ∃ lo hi : Option Int, vs = [eV lo, eV hi] ∧ leO lo hi = true ∧ ∀ H', Same H H' → Q (.bl true) H'
end L2
namespace L2
open PySem.W PyProof.Rows
namespace KS
variable {lt : Nat → Nat → Bool} {N : Nat}
structure Ord (lt : Nat → Nat → Bool) : Prop where
 as : ∀ a b, lt a b = true → lt b a = false
 tr : ∀ a b c, lt b a = false → lt c b = false → lt c a = false
abbrev K (p : Array Nat) (i : Nat) : Nat := p.getD i 0
structure Ok (N : Nat) (p : Array Nat) : Prop where
 perm : p.toList.Perm (List.range N)
theorem Ok.size {p : Array Nat} (h : Ok N p) : p.size = N := by
 have := h.perm.length_eq
 simpa using this
def Srt (lt : Nat → Nat → Bool) (p : Array Nat) (m : Nat) : Prop := ∀ i j, i < j → j < m → lt (K p j) (K p i) = false
end KS
end L2
set_option maxHeartbeats 1000000
namespace L2
open PySem PySem.Spec PyProof.Rows PySem.W
section
variable {prog : Program} {w : World} {A : Around} {E : Value → Shared → Prop} {s : Shared}
end
end L2
namespace L2
open PySem PySem.Spec PyProof.Rows PySem.W
theorem zem {α : Type} {f : α → Addr} : ∀ {ps : List α} {us : List Value}, Vals (ps.map fun p => V.ref (f p)) us → us = ps.map fun p => Value.ref (f p)
 | [], _, h => by cases h; rfl
 | p :: ps, _, h => by
  rw [List.map_cons] at h
  cases h with
  | cons r h =>
   obtain rfl : _ = Value.ref (f p) := r
   rw [zem h]
   rfl
abbrev TI3 := Addr × Str × Int
def d3 : TI3 := (0, "", 0)
theorem zif {α : Type} (d : α) {ps : List α} {p : Array Nat} (h : KS.Ok ps.length p) : (p.toList.map fun i => ps.getD i d).Perm ps := by
 have e : (List.range ps.length).map (fun i => ps.getD i d) = ps := by
  apply List.ext_getElem
  · simp
  · intro i h1 h2
    simp [h2]
 have := h.perm.map (fun i => ps.getD i d)
 rw [e] at this
 exact this
theorem ziq {α β : Type} (f : α → β) (d : α) (e : β) (ps : List α) {i : Nat} (h : i < ps.length) : (ps.map f).getD i e = f (ps.getD i d) := by
 simp [h]
section
variable {X : Cx}
end
end L2
namespace L2
open PySem PySem.Spec PyProof.Rows
open PySem.AutoSeq1 (wpAny_loadPart')
open PySem.MeetsSeq PySem.MeetsSeq2 PySem.MeetsSeq3 PySem.SeqRoads2
def LtAt (A : Around) (s : Shared) (y x : Value) (b : Bool) : Prop :=
 ∀ (prog : Program) (w : World) (E : Value → Shared → Prop) (Q : Value → Shared → Prop), Q (.bool b) s → wpAny (model prog w) A (richCompare .Lt y x) Q E s
structure FirstAt (A : Around) (s : Shared) (items items2 : Array Value) (b : Bool) (j : Nat) : Prop where
 le1 : j ≤ items.size
 le2 : j ≤ items2.size
 same : ∀ i (h1 : i < items.size) (h2 : i < items2.size), i < j → SeqAt.EqAt A s items[i] items2[i] true
 fin : ((items.size ≤ j ∨ items2.size ≤ j) ∧ b = decide (items.size < items2.size)) ∨ ∃ (h1 : j < items.size) (h2 : j < items2.size), SeqAt.EqAt A s items[j] items2[j] false ∧ LtAt A s items[j] items2[j] b
section
variable {P : Program} {w : World}
theorem zfE (l b : Addr) (items items2 : Array Value) (n n2 : Nat) (dd dd2 : Option Addr) (sl sl2 : Array (Option Value)) (c : Bool) (j k : Nat) :
 ∀ i : Nat, j - i = k → i ≤ j → ∀ (A : Around) (R : Result → Shared → Prop) (s : Shared), s.heap.get? l = some { cls := .type "list", dict := dd, data := .seq items n, slots := sl } → s.heap.get? b = some { cls := .type "list", dict := dd2, data := .seq items2 n2, slots := sl2 } →
  FirstAt A.in1 s items items2 c j → R (.ok (.ret (.bool c))) s →
  wpAny (model P w) A.in1 (Builtin.«list.__eq__.loop» ⟨[.ref l, .ref b, rawInt i, rawInt 0], []⟩) (fun fin s' => match fin with | .done f => R (.ok f) s' | .again c' => c'.quiet = true ∧ codeAny (model P w) A c' R s') (fun e s' => R (.error e) s') s := by
 induction k with
 | zero =>
  intro i hk hij A R s hl hb F h
  obtain rfl : i = j := by omega
  obtain ⟨hp, g, d, tk, os⟩ := s
  rcases F.fin with ⟨hs, hc⟩ | ⟨h1, h2, he, hlt⟩
  · wp_walk using wpAny_loadPart' hl, wpAny_loadPart' hb
    by_cases c1 : i < items.size
    · have o1 : items[((i : Nat) : Int).toNat]? = some items[i] := by simp [c1]
      have o2 : items2[((i : Nat) : Int).toNat]? = none := by simp; omega
      rw [o1, o2]
      wp_walk using wpAny_loadPart' hl, wpAny_loadPart' hb
      show R (.ok (.ret (.bool (decide (items.size < items2.size))))) _
      rw [← hc]
      exact h
    · have o1 : items[((i : Nat) : Int).toNat]? = none := by simp; omega
      rw [o1]
      wp_walk using wpAny_loadPart' hl, wpAny_loadPart' hb
      show R (.ok (.ret (.bool (decide (items.size < items2.size))))) _
      rw [← hc]
      exact h
  · wp_walk using wpAny_loadPart' hl, wpAny_loadPart' hb
    have o1 : items[((i : Nat) : Int).toNat]? = some items[i] := by simp [h1]
    have o2 : items2[((i : Nat) : Int).toNat]? = some items2[i] := by simp [h2]
    rw [o1, o2]
    refine wpAny_bind (he _ _ _ _ ?_)
    wp_walk using wpAny_loadPart' hl, wpAny_loadPart' hb
    rw [o1, o2]
    refine wpAny_bind (hlt _ _ _ _ ?_)
    wp_walk
    exact h
 | succ k ih =>
  intro i hk hij A R s hl hb F h
  obtain ⟨hp, g, d, tk, os⟩ := s
  wp_walk using wpAny_loadPart' hl, wpAny_loadPart' hb
  have f1 := F.le1
  have f2 := F.le2
  have lt1 : i < items.size := by omega
  have lt2 : i < items2.size := by omega
  have o1 : items[((i : Nat) : Int).toNat]? = some items[i] := by simp [lt1]
  have o2 : items2[((i : Nat) : Int).toNat]? = some items2[i] := by simp [lt2]
  have hc : ((i : Int) + 1) = ((i + 1 : Nat) : Int) := by push_cast; rfl
  rw [o1, o2]
  refine wpAny_bind (F.same i lt1 lt2 (by omega) _ _ _ _ ?_)
  wp_walk
  rw [hc]
  exact ⟨plainId_quiet plain_eq_loop _, codeAny_builtin entry_eq_loop (by
   rw [Around.under_plainId plain_eq_loop _]
   exact ih (i + 1) (by omega) (by omega) A R _ hl hb F h)⟩
theorem zho (l b : Addr) (items items2 : Array Value) (n n2 : Nat) (dd dd2 : Option Addr) (sl sl2 : Array (Option Value)) {c : Bool} {j : Nat} (A : Around) (R : Result → Shared → Prop) (s : Shared)
 (hl : s.heap.get? l = some { cls := .type "list", dict := dd, data := .seq items n, slots := sl }) (hb : s.heap.get? b = some { cls := .type "list", dict := dd2, data := .seq items2 n2, slots := sl2 })
 (F : FirstAt A.in1 s items items2 c j) (h : R (.ok (.ret (.bool c))) s) :
 wpAny (model P w) A.in1 (Builtin.«list.__lt__» ⟨[.ref l, .ref b], []⟩) (fun fin s' => match fin with | .done f => R (.ok f) s' | .again c' => c'.quiet = true ∧ codeAny (model P w) A c' R s') (fun e s' => R (.error e) s') s := by
 obtain ⟨hp, g, d, tk, os⟩ := s
 have f3 := AutoSeq1.sub_list_list
 wp_walk using wpAny_loadPart' hl, wpAny_loadPart' hb
 exact ⟨plainId_quiet plain_eq_loop _, codeAny_builtin entry_eq_loop (by
  rw [Around.under_plainId plain_eq_loop _]
  exact zfE l b items items2 n n2 dd dd2 sl sl2 c j _ 0 rfl (Nat.zero_le _) A R _ hl hb F h)⟩
theorem zcY {l b : Addr} {items items2 : Array Value} {c : Bool} {j : Nat} {A : Around} {s : Shared} {E : Value → Shared → Prop} {Q : Value → Shared → Prop} (hl : s.heap.IsList l items) (hb : s.heap.IsList b items2) (FA : FirstAt A.in1 s items items2 c j) (h : Q (.bool c) s) :
 wpAny (model P w) A (call (.builtin "list.__lt__") [.ref l, .ref b]) Q E s := by
 obtain ⟨⟨c1, dd, data, sl⟩, ho, hc, n, hd⟩ := id hl
 obtain ⟨⟨c2, dd2, data2, sl2⟩, ho2, hc2, n2, hd2⟩ := id hb
 simp only at hc hd hc2 hd2
 subst hc hd hc2 hd2
 refine wpAny_call (codeAny_call_builtin F.slot_list_lt.plain F.entry_list_lt (F.slot_list_lt.check _ _ _ _ _ _ _ _ ⟨_, ho, rfl⟩ (F.args_list_lt_2 _ _) ?_))
 exact zho l b items items2 n n2 dd dd2 sl sl2 A (wants Q E) s ho ho2 FA h
theorem LtAt.lists {l b : Addr} {items items2 : Array Value} {c : Bool} {j : Nat} {A : Around} {s : Shared} (hl : s.heap.IsList l items) (hb : s.heap.IsList b items2) (hu : A.units < cLine) (FA : FirstAt A.in1 s items items2 c j) : LtAt A s (.ref l) (.ref b) c := by
 intro P w E Q h
 obtain ⟨o, ho, hc, _⟩ := id hl
 obtain ⟨o2, ho2, hc2, _⟩ := id hb
 exact wpAny_richCompare_same_room (op := .Lt) ⟨_, ho, hc⟩ ⟨_, ho2, hc2⟩ F.slot_list_lt (zcY hl hb FA ⟨(fun x => nomatch x), h⟩) hu
theorem LtAt.tuples {l b : Addr} {items items2 : Array Value} {c : Bool} {j : Nat} {A : Around} {s : Shared} (hl : s.heap.IsTuple l items) (hb : s.heap.IsTuple b items2) (hu : A.units < cLine) (FA : FirstAt A.in1 s items items2 c j) : LtAt A s (.ref l) (.ref b) c := by
 intro P w E Q h
 obtain ⟨⟨c1, dd, data, sl⟩, ho, hc, n, hd⟩ := id hl
 obtain ⟨⟨c2, dd2, data2, sl2⟩, ho2, hc2, n2, hd2⟩ := id hb
 simp only at hc hd hc2 hd2
 subst hc hd hc2 hd2
 refine wpAny_richCompare_same_room (op := .Lt) ⟨_, ho, rfl⟩ ⟨_, ho2, rfl⟩ F.slot_tuple_lt (wpAny_call_entry F.slot_tuple_lt ⟨_, ho, rfl⟩ F.entry_tuple_lt ?_ (F.args_tuple_lt_2 _ _)) hu
 obtain ⟨hp, g, d, tk, os⟩ := s
 have f2 := AutoSeq1.sub_tuple_tuple
 have hZ : (items.toList.zip items2.toList).length = min items.size items2.size := by simp
 have f1 := FA.le1
 have f2' := FA.le2
 wp_walk using wpAny_loadPart' ho, wpAny_loadPart' ho2, wpAny_forIn_list _ (fun rest b s' => s' = ⟨hp, g, d, tk, os⟩ ∧ ((b.1 = none ∧ ∃ i, i ≤ j ∧ rest = (items.toList.zip items2.toList).drop i) ∨ (b.1 = some (PySem.Fin.done (.ret (.bool c))) ∧ rest = []))) _
 case turn =>
  rintro ⟨y, x⟩ rest b' s' ⟨rfl, ⟨hb', i, hij, hz⟩ | ⟨_, hz⟩⟩
  · have lt0 : i < (items.toList.zip items2.toList).length := by
     rcases Nat.lt_or_ge i (items.toList.zip items2.toList).length with h' | h'
     · exact h'
     · rw [List.drop_of_length_le h'] at hz; cases hz
    have h1 : i < items.size := by omega
    have h2 : i < items2.size := by omega
    rw [List.drop_eq_getElem_cons lt0] at hz
    injection hz with hyx hrest
    have hy : y = items[i] := by have := congrArg Prod.fst hyx; simpa using this
    have hx : x = items2[i] := by have := congrArg Prod.snd hyx; simpa using this
    subst hy hx
    rcases Nat.lt_or_ge i j with h3 | h3
    · refine wpAny_bind (FA.same i h1 h2 h3 _ _ _ _ ?_)
      wp_walk
      exact ⟨rfl, .inl ⟨rfl, i + 1, h3, hrest⟩⟩
    · obtain rfl : i = j := by omega
      rcases FA.fin with ⟨hs, hc⟩ | ⟨_, _, he, hlt⟩
      · omega
      · refine wpAny_bind (he _ _ _ _ ?_)
        simp only [Bool.not_false, if_true]
        refine wpAny_bind (wpAny_rule ?_)
        refine wpAny_bind (hlt _ _ _ _ ?_)
        wp_walk
        exact ⟨_, rfl, (fun x => nomatch x), h⟩
  · cases hz
 case fin =>
  rintro ⟨b1, b2⟩ s' ⟨rfl, ⟨hb', i, hij, hz⟩ | ⟨hb', _⟩⟩
  · simp only at hb'
    subst hb'
    wp_walk
    refine ⟨_, rfl, ?_⟩
    have hlen : (items.toList.zip items2.toList).length ≤ i := by
     rcases Nat.lt_or_ge i (items.toList.zip items2.toList).length with h' | h'
     · rw [List.drop_eq_getElem_cons h'] at hz; cases hz
     · exact h'
    rcases FA.fin with ⟨hs, hc⟩ | ⟨h1, h2, _, _⟩
    · have e : Builtin.Tuple.tupleCompareSizes .Lt items.size items2.size = Value.bool c := by rw [hc]; rfl
      rw [e]
      exact ⟨(fun x => nomatch x), h⟩
    · omega
  · simp only at hb'
    subst hb'
    wp_walk
    exact ⟨_, rfl, (fun x => nomatch x), h⟩
 case h => exact ⟨rfl, .inl ⟨rfl, 0, Nat.zero_le _, rfl⟩⟩
end
theorem LtAt.ints {A : Around} {s : Shared} (a b : Int) (t u : Tok) : LtAt A s (.int a t) (.int b u) (decide (a < b)) := fun P w E Q h => by
 exact (wpAny_lt_int (prog := P) (w := w) (A := A) (E := E) (t := t) (u := u) h)
theorem LtAt.strs {A : Around} {s : Shared} (a b : Str) (t u : Tok) : LtAt A s (.str a t) (.str b u) (decide (a.cps.toList < b.cps.toList)) := fun P w E Q h => by
 exact lt_str (x := a) (y := b) (t := t) (u := u) (prog := P) (w := w) (A := A) (E := E) h
mutual
def pyLt : PD → PD → Bool
 | .int a, .int b => decide (a < b)
 | .str a, .str b => decide (a.cps.toList < b.cps.toList)
 | .lst xs, .lst ys => zbA xs ys
 | .tup xs, .tup ys => zbA xs ys
 | _, _ => false
def zbA : List PD → List PD → Bool
 | [], [] => false
 | [], _ :: _ => true
 | _ :: _, [] => false
 | x :: xs, y :: ys => if pyEq x y = true then zbA xs ys else pyLt x y
end
mutual
def ltOk : PD → PD → Bool
 | .int _, .int _ => true
 | .str _, .str _ => true
 | .lst xs, .lst ys => zcj xs ys
 | .tup xs, .tup ys => zcj xs ys
 | _, _ => false
def zcj : List PD → List PD → Bool
 | x :: xs, y :: ys => if pyEq x y = true then zcj xs ys else ltOk x y
 | _, _ => true
end
section
variable {X : Cx} {pins : List (Addr × Obj)} {σ : St} {H : Hp} {s : Shared}
mutual
theorem zim (I : Inv X pins σ H s) : ∀ (A : Around) (d e : PD) (v w : V) (u y : Value), Rep X.K H d v → Rep X.K H e w → RelV v u → RelV w y → A.units + zay d < cLine → ltOk d e = true → LtAt A s u y (pyLt d e)
 | A, .int c, .int b, v, w, u, y, h, h', r, r', z, ok => by
  rw [Rep] at h h'; subst h h'
  obtain ⟨t, rfl⟩ := r
  obtain ⟨t', rfl⟩ := r'
  rw [pyLt]
  exact LtAt.ints c b t t'
 | A, .str c, .str b, v, w, u, y, h, h', r, r', z, ok => by
  rw [Rep] at h h'; subst h h'
  obtain ⟨t, rfl⟩ := r
  obtain ⟨t', rfl⟩ := r'
  rw [pyLt]
  exact LtAt.strs c b t t'
 | A, .lst ds, .lst es, v, w, u, y, h, h', r, r', z, ok => by
  rw [Rep] at h h'
  obtain ⟨a, xs, rfl, q, qs⟩ := h
  obtain ⟨b, ys, rfl, q', qs'⟩ := h'
  cases r; cases r'
  obtain ⟨its, rv, p, _⟩ := I.list q
  obtain ⟨its', rv', p', _⟩ := I.list q'
  rw [zay] at z
  rw [pyLt]
  rw [ltOk] at ok
  obtain ⟨j, F⟩ := zcB I A.in1 ds es xs ys its its' qs qs' rv rv' (by rw [Around.in1_units]; omega) ok
  exact LtAt.lists p.isList p'.isList (by omega) F
 | A, .tup ds, .tup es, v, w, u, y, h, h', r, r', z, ok => by
  rw [Rep] at h h'
  obtain ⟨a, xs, rfl, q, qs⟩ := h
  obtain ⟨b, ys, rfl, q', qs'⟩ := h'
  cases r; cases r'
  obtain ⟨its, rv, p, _⟩ := I.tuple q
  obtain ⟨its', rv', p', _⟩ := I.tuple q'
  rw [zay] at z
  rw [pyLt]
  rw [ltOk] at ok
  obtain ⟨j, F⟩ := zcB I A.in1 ds es xs ys its its' qs qs' rv rv' (by rw [Around.in1_units]; omega) ok
  exact LtAt.tuples p p' (by omega) F
 | A, .non, e, v, w, u, y, h, h', r, r', z, ok => by cases e <;> simp [ltOk] at ok
 | A, .bl _, e, v, w, u, y, h, h', r, r', z, ok => by cases e <;> simp [ltOk] at ok
 | A, .int _, .non, v, w, u, y, h, h', r, r', z, ok => by simp [ltOk] at ok
 | A, .int _, .bl _, v, w, u, y, h, h', r, r', z, ok => by simp [ltOk] at ok
 | A, .int _, .str _, v, w, u, y, h, h', r, r', z, ok => by simp [ltOk] at ok
 | A, .int _, .lst _, v, w, u, y, h, h', r, r', z, ok => by simp [ltOk] at ok
 | A, .int _, .tup _, v, w, u, y, h, h', r, r', z, ok => by simp [ltOk] at ok
 | A, .str _, .non, v, w, u, y, h, h', r, r', z, ok => by simp [ltOk] at ok
 | A, .str _, .bl _, v, w, u, y, h, h', r, r', z, ok => by simp [ltOk] at ok
 | A, .str _, .int _, v, w, u, y, h, h', r, r', z, ok => by simp [ltOk] at ok
 | A, .str _, .lst _, v, w, u, y, h, h', r, r', z, ok => by simp [ltOk] at ok
 | A, .str _, .tup _, v, w, u, y, h, h', r, r', z, ok => by simp [ltOk] at ok
 | A, .lst _, .non, v, w, u, y, h, h', r, r', z, ok => by simp [ltOk] at ok
 | A, .lst _, .bl _, v, w, u, y, h, h', r, r', z, ok => by simp [ltOk] at ok
 | A, .lst _, .int _, v, w, u, y, h, h', r, r', z, ok => by simp [ltOk] at ok
 | A, .lst _, .str _, v, w, u, y, h, h', r, r', z, ok => by simp [ltOk] at ok
 | A, .lst _, .tup _, v, w, u, y, h, h', r, r', z, ok => by simp [ltOk] at ok
 | A, .tup _, .non, v, w, u, y, h, h', r, r', z, ok => by simp [ltOk] at ok
 | A, .tup _, .bl _, v, w, u, y, h, h', r, r', z, ok => by simp [ltOk] at ok
 | A, .tup _, .int _, v, w, u, y, h, h', r, r', z, ok => by simp [ltOk] at ok
 | A, .tup _, .str _, v, w, u, y, h, h', r, r', z, ok => by simp [ltOk] at ok
 | A, .tup _, .lst _, v, w, u, y, h, h', r, r', z, ok => by simp [ltOk] at ok
theorem zcB (I : Inv X pins σ H s) : ∀ (A : Around) (ds es : List PD) (vs ws : List V) (us ys : List Value), Reps X.K H ds vs → Reps X.K H es ws → Vals vs us → Vals ws ys → A.units + zav ds < cLine → zcj ds es = true →
 ∃ j, FirstAt A s us.toArray ys.toArray (zbA ds es) j
 | A, [], es, vs, ws, us, ys, h, h', r, r', z, ok => by
  rw [Reps] at h; subst h; cases r
  have l1 := h'.length
  have l2 := r'.length
  refine ⟨0, Nat.zero_le _, Nat.zero_le _, fun i h1 h2 h3 => absurd h3 (Nat.not_lt_zero _), .inl ⟨.inl (by simp), ?_⟩⟩
  cases es with
  | nil =>
   rw [zbA]
   rw [Reps] at h'
   subst h'
   cases r'
   rfl
  | cons e es => rw [zbA]; simp at l1 l2; simp; omega
 | A, d :: ds, [], vs, ws, us, ys, h, h', r, r', z, ok => by
  rw [Reps] at h'; subst h'; cases r'
  refine ⟨0, Nat.zero_le _, Nat.zero_le _, fun i h1 h2 h3 => absurd h3 (Nat.not_lt_zero _), .inl ⟨.inr (by simp), ?_⟩⟩
  rw [zbA]
  simp
 | A, d :: ds, e :: es, vs, ws, us, ys, h, h', r, r', z, ok => by
  rw [Reps] at h h'
  obtain ⟨x, vr, rfl, g1, g2⟩ := h
  obtain ⟨x', vr', rfl, g1', g2'⟩ := h'
  cases r with
  | @cons _ u1 _ ur ra rb =>
   cases r' with
   | @cons _ y1 _ yr ra' rb' =>
    rw [zav] at z
    rw [zcj] at ok
    have he := zbO I A d e x x' _ _ g1 g1' ra ra' (by omega)
    rw [zbA]
    by_cases hq : pyEq d e = true
    · rw [if_pos hq] at ok ⊢
      rw [hq] at he
      obtain ⟨j, F⟩ := zcB I A ds es vr vr' _ _ g2 g2' rb rb' (by omega) ok
      have f1 := F.le1
      have f2 := F.le2
      have f3 := F.same
      have f4 := F.fin
      simp only [List.size_toArray] at f1 f2 f3 f4
      refine ⟨j + 1, by simpa using f1, by simpa using f2, fun i h1 h2 h3 => ?_, ?_⟩
      · cases i with
        | zero => exact he
        | succ i => simpa using f3 i (by simpa using h1) (by simpa using h2) (by omega)
      · rcases f4 with ⟨hs, hc⟩ | ⟨h1, h2, k1, k2⟩
        · refine .inl ⟨by simpa using hs, ?_⟩
          rw [hc]
          simp
        · exact .inr ⟨by simpa using h1, by simpa using h2, by simpa using k1, by simpa using k2⟩
    · rw [if_neg hq] at ok ⊢
      rw [Bool.not_eq_true] at hq
      rw [hq] at he
      have zz : A.units + zay d < cLine := by omega
      exact ⟨0, Nat.zero_le _, Nat.zero_le _, fun i h1 h2 h3 => absurd h3 (Nat.not_lt_zero _), .inr ⟨by simp, by simp, he, zim I A d e x x' _ _ g1 g1' ra ra' zz ok⟩⟩
end
end
end L2
namespace L2
open PySem PySem.Spec PyProof.Rows PySem.W
section
variable {X : Cx} {pins : List (Addr × Obj)} {σ : St} {H : Hp} {s : Shared} {a : Addr} {o : HO}
theorem Inv.track7 (I : Inv X pins σ H s) (hn : FpOk X pins H a) (h0 : X.s₀.heap.get? a = none) (new : ObjOk X.prog X.w (upd H a o) s.heap a o) : Inv X pins σ (upd H a o) s := by
 obtain ⟨hn, hl, _, _, hc, hp⟩ := hn
 refine ⟨I.ok, I.os, I.bare, ⟨I.base.keep, I.base.slot, fun b ob q n hx => ?_, I.base.there, fun b xs q => ?_, fun b ob u q => ?_, fun b ps q => ?_⟩, I.loc, I.cell, ?_, fun x c e => ?_, fun p hp' => ?_, fun b u q => ?_, I.len⟩
 · have : b ≠ a := fun z => by rw [z, h0] at q; cases q
   rw [zal this]
   exact I.base.free b ob q n hx
 · have := I.base.tups b xs q
   rw [zal (zao this hn)]
   exact this
 · have := I.base.frzs b ob u q
   rw [zal (zao this hn)]
   exact this
 · obtain ⟨m, this⟩ := I.base.tbls b ps q
   exact ⟨m, by rw [zal (zao this hn)]; exact this⟩
 · rw [zal hl.symm]; exact I.free
 · rw [zal (hc x c e)]; exact I.freeC x c e
 · obtain ⟨e, n, r⟩ := I.pin p hp'
   exact ⟨e, by rw [zal (hp p hp')]; exact n, r⟩
 · by_cases hb : b = a
   · subst hb
     rw [zad] at q
     cases q
     exact new
   · rw [zal hb] at q
     exact (I.hok b u q).stay (fun c v _ r => r) (fun c r => by rw [zal (zao r hn)]; exact r) fun c xs r => by rw [zal (zao r hn)]; exact r
mutual
theorem Rep.same {K : PySem.W.Frag} {H H' : Hp} (h : Same H H') : ∀ (d : PD) (v : V), Rep K H d v → Rep K H' d v
 | .non, v, q => by rw [Rep] at q ⊢; exact q
 | .bl _, v, q => by rw [Rep] at q ⊢; exact q
 | .int _, v, q => by rw [Rep] at q ⊢; exact q
 | .str _, v, q => by rw [Rep] at q ⊢; exact q
 | .lst ds, v, q => by
  rw [Rep] at q ⊢
  obtain ⟨a, xs, rfl, q1, q2⟩ := q
  exact ⟨a, xs, rfl, h.seq q1, Reps.same h ds xs q2⟩
 | .tup ds, v, q => by
  rw [Rep] at q ⊢
  obtain ⟨a, xs, rfl, q1, q2⟩ := q
  exact ⟨a, xs, rfl, h.seqT q1, Reps.same h ds xs q2⟩
theorem Reps.same {K : PySem.W.Frag} {H H' : Hp} (h : Same H H') : ∀ (ds : List PD) (vs : List V), Reps K H ds vs → Reps K H' ds vs
 | [], vs, q => by rw [Reps] at q ⊢; exact q
 | d :: ds, vs, q => by
  rw [Reps] at q ⊢
  obtain ⟨x, r, e, q1, q2⟩ := q
  exact ⟨x, r, e, Rep.same h d x q1, Reps.same h ds r q2⟩
end
theorem zgu {prog : Program} {w : World} {A : Around} {E : Value → Shared → Prop} {l b : Addr} {items items2 : Array Value} {c : Bool} {j : Nat} {Q : Bool → Shared → Prop} (hl : s.heap.IsList l items) (hb : s.heap.IsList b items2) (hu : A.units < cLine) (FA : FirstAt A.in1 s items items2 c j) (h : Q c s) :
 wpAny (model prog w) A (keyLt' oneType' (.ref l) (.ref b)) Q E s := by
 obtain ⟨o, ho, hc, _⟩ := id hl
 rw [keyLt'_oneType, oneLt'_eq]
 simp only [if_true]
 refine wpAny_bind (wpAny_cRoomFor hu ?_)
 refine wpAny_bind (wpAny_callSpecialIfBound?_slot ⟨o, ho, hc⟩ F.slot_list_lt (zcY hl hb FA ?_))
 exact wpAny_truthy_bool h
theorem zgC {M : Model} {h : Heap} {l : Addr} {items : Array Value} (hl : h.IsList l items) : Looks M h (typeOf (.ref l)) (.type "list") := by
 obtain ⟨o, ho, hc, _⟩ := hl
 rw [← hc]
 exact (Looks.ld ho).andThen .now
end
end L2
namespace L2
open PySem PySem.Spec PyProof.Rows PySem.W
abbrev Cx.in2 (X : Cx) : Cx := { X with A := X.A.in1.in1, xe := fun _ _ => False }
section
variable {X : Cx} {pins : List (Addr × Obj)} {σ : St} {H : Hp} {s : Shared}
theorem Cx.Ok.in2 (ok : X.Ok) : X.in2.Ok := ⟨ok.mod, ok.kind, ok.glob, ok.blt, ok.above, ok.inj, ok.has, ok.cab, ok.hd, ok.frames, ok.stk, ok.exf, ok.bs, ok.bsz, ok.noex, ok.exfs, ok.funs, ok.frf⟩
theorem Inv.in2 (I : Inv X pins σ H s) : Inv X.in2 pins σ H s := ⟨I.ok.in2, I.os, I.bare, I.base, I.loc, I.cell, I.free, I.freeC, I.pin, I.hok, I.len⟩
theorem Inv.out2 (ok : X.Ok) (I : Inv X.in2 pins σ H s) : Inv X pins σ H s := ⟨ok, I.os, I.bare, I.base, I.loc, I.cell, I.free, I.freeC, I.pin, I.hok, I.len⟩
def zjC (K : PySem.W.Frag) : V → List V → Hp → VK → Prop := fun o vs H Q => ∃ (l : Addr) (ps : List (Addr × PD)) (x : V) (d : PD), o = .ref l ∧ vs = [x] ∧ SqL K H l (ps.map fun p => V.ref p.1) ∧ (∀ p ∈ ps, Rep K H p.2 (.ref p.1) ∧ zay p.2 ≤ 20) ∧ Rep K H d x ∧ Q (.int (ps.countP fun p => pyEq p.2 d)) H
def eqR (ps : List (Addr × PD)) (d : PD) : Value → Bool
 | .ref a => (ps.find? fun p => decide (p.1 = a)).any fun p => pyEq p.2 d
 | _ => false
theorem zf2 (hr : ze1 X) : MtM X "list.count" (zjC X.K) := by
 intro pins s σ H x vs v us Q I rx rv h
 obtain ⟨l, ps, y, d, rfl, rfl, hq, hp, hd, q⟩ := h
 cases rx
 obtain ⟨u, rfl, ru⟩ := rv.one
 obtain ⟨its, r, ⟨o, nn, e0, g1, g2, g3⟩, hz⟩ := I.list hq
 obtain rfl := zem r
 obtain ⟨oc, od, odat, osl⟩ := o
 cases g1
 cases g2
 cases g3
 have at' : ∀ p ∈ ps, eqR ps d (.ref p.1) = pyEq p.2 d := fun p hm => by
  show ((ps.find? fun q => decide (q.1 = p.1)).any fun q => pyEq q.2 d) = pyEq p.2 d
  cases e : ps.find? (fun q => decide (q.1 = p.1)) with
  | none => exact absurd (decide_eq_true rfl) (List.find?_eq_none.mp e p hm)
  | some p' =>
   have h1 : p'.1 = p.1 := of_decide_eq_true (List.find?_some (p := fun (q : Addr × PD) => decide (q.1 = p.1)) e)
   have h2 := (hp p' (List.mem_of_find?_eq_some e)).1
   rw [h1] at h2
   rw [Option.any_some, zd2 I _ _ _ h2 (hp p hm).1]
 refine call_meets F.slot_list_count ⟨_, e0, rfl⟩ F.entry_list_count (F.args_list_count_2 _ _) (SeqAt.list_countAt l (ps.map fun p => Value.ref p.1).toArray nn none osl u (eqR ps d)) ⟨e0, ?_, ?_⟩
 · intro z hz'
   have hz2 : z ∈ ps.map fun p => Value.ref p.1 := Array.mem_toList_iff.mpr hz'
   obtain ⟨p, hm, rfl⟩ := List.mem_map.mp hz2
   rw [at' p hm]
   have := (hp p hm).2
   exact zbO I _ p.2 d _ _ _ _ (hp p hm).1 hd rfl ru (by have := hr; simp only [ze1, Around.in1_units] at *; omega)
 · have ec : (ps.map fun p => Value.ref p.1).toArray.toList.countP (eqR ps d) = ps.countP fun p => pyEq p.2 d := by
    rw [List.toList_toArray, List.countP_map]
    refine List.countP_congr fun p hm => ?_
    show eqR ps d (.ref p.1) = true ↔ _
    rw [at' p hm]
   rw [ec]
   exact ⟨.int _, H, I.tok _, ⟨_, rfl⟩, q⟩
end
end L2
namespace L2
open PySem PySem.Spec PyProof.Rows
section
variable {X : Cx} {pins : List (Addr × Obj)} {σ : St} {H : Hp} {s : Shared} {a : Addr} {o : Obj} {kvs : List (Key × V)}
end
section
variable {X : Cx} {tg : Expr}
end
section
variable {p a : Addr} {g : TG} {tc : TT} {te : TE} {σ : St} {H : Hp} {Q : VK} {o : Obj} {kvs : List (Key × V)} {fs : List Str}
end
section
variable {X : Cx}
end
def dWP (p : WP) : PD := .tup [.str p.1, dE p.2.1, dE p.2.2]
def dW (w : List WP) : PD := .tup (w.map dWP)
theorem ziF {K : PySem.W.Frag} {H : Hp} : ∀ ps : List (Addr × WP), (∀ p ∈ ps, H p.1 = some (.tup [.str p.2.1, eV p.2.2.1, eV p.2.2.2])) → Reps K H ((ps.map (·.2)).map dWP) (ps.map fun p => V.ref p.1)
 | [], _ => by show Reps K H [] []; rw [Reps]
 | p :: ps, h => by
  show Reps K H (dWP p.2 :: _) (V.ref p.1 :: _)
  rw [Reps]
  refine ⟨_, _, rfl, ?_, ziF ps fun q hq => h q (List.mem_cons_of_mem _ hq)⟩
  unfold dWP
  rw [Rep]
  refine ⟨p.1, _, rfl, SqT.of (h p List.mem_cons_self), ?_⟩
  rw [Reps]
  refine ⟨_, _, rfl, by rw [Rep], ?_⟩
  rw [Reps]
  refine ⟨_, _, rfl, zfU _, ?_⟩
  rw [Reps]
  exact ⟨_, _, rfl, zfU _, by rw [Reps]⟩
theorem zjA {K : PySem.W.Frag} {H : Hp} {a : Addr} {w : List WP} (h : WishAt H a w) : Rep K H (dW w) (.ref a) := by
 obtain ⟨ps, rfl, h1, h2⟩ := h
 unfold dW
 rw [Rep]
 exact ⟨a, _, rfl, SqT.of h1, ziF ps h2⟩
theorem zix (p : WP) : zay (dWP p) = 1 := by
 unfold dWP
 simp [zay, zav, zef]
theorem zga : ∀ w : List WP, zav (w.map dWP) ≤ 1
 | [] => by show zav [] ≤ 1; rw [zav]; omega
 | p :: w => by
  rw [List.map_cons, zav, zix]
  have := zga w
  omega
theorem zjk (w : List WP) : zay (dW w) ≤ 2 := by
 unfold dW
 rw [zay]
 have := zga w
 omega
structure STo {α : Type} (l : α → α → Bool) : Prop where
 ir : ∀ a, l a a = false
 tr : ∀ a b c, l a b = true → l b c = true → l a c = true
 tot : ∀ a b, a ≠ b → l a b = true ∨ l b a = true
theorem STo.as {α : Type} {l : α → α → Bool} (h : STo l) {a b : α} (q : l a b = true) : l b a = false := by
 cases e : l b a with
 | false => rfl
 | true => have := h.tr a b a q e; rw [h.ir] at this; cases this
theorem STo.ntr {α : Type} [DecidableEq α] {l : α → α → Bool} (h : STo l) {a b c : α} (h1 : l b a = false) (h2 : l c b = false) : l c a = false := by
 cases e : l c a with
 | false => rfl
 | true =>
  by_cases hab : a = b
  · subst hab; rw [e] at h2; cases h2
  · rcases h.tot a b hab with z | z
    · have := h.tr c a b e z; rw [h2] at this; cases this
    · rw [h1] at z; cases z
theorem STo.ord {α : Type} [DecidableEq α] {l : α → α → Bool} (h : STo l) (k : Nat → α) : KS.Ord fun i j => l (k i) (k j) :=
 ⟨fun a b q => h.as q, fun a b c h1 h2 => h.ntr h1 h2⟩
def ltI (a b : Int) : Bool := decide (a < b)
theorem sto_int : STo ltI := ⟨fun a => by simp [ltI], fun a b c h1 h2 => by simp [ltI] at *; omega, fun a b h => by simp [ltI]; omega⟩
def ltS (a b : Str) : Bool := decide (a.cps.toList < b.cps.toList)
theorem sto_str : STo ltS := ⟨fun a => decide_eq_false (List.lt_irrefl _), fun a b c h1 h2 => decide_eq_true (List.lt_trans (of_decide_eq_true h1) (of_decide_eq_true h2)), fun a b h => by
 by_cases q : ltF a b
 · exact .inl (decide_eq_true q)
 · exact .inr (decide_eq_true (zhp q h))⟩
def lexP {α β : Type} [DecidableEq α] (l : α → α → Bool) (m : β → β → Bool) (x y : α × β) : Bool := if x.1 = y.1 then m x.2 y.2 else l x.1 y.1
theorem STo.pair {α β : Type} [DecidableEq α] {l : α → α → Bool} {m : β → β → Bool} (h : STo l) (k : STo m) : STo (lexP l m) where
 ir := fun a => by simp [lexP, k.ir]
 tr := fun ⟨a, a'⟩ ⟨b, b'⟩ ⟨c, c'⟩ h1 h2 => by
  simp only [lexP] at *
  by_cases e1 : a = b
  · subst e1
    rw [if_pos rfl] at h1
    by_cases e2 : a = c
    · subst e2
      rw [if_pos rfl] at h2 ⊢
      exact k.tr _ _ _ h1 h2
    · rw [if_neg e2] at h2 ⊢
      exact h2
  · rw [if_neg e1] at h1
    by_cases e2 : b = c
    · subst e2
      rw [if_neg e1]
      exact h1
    · rw [if_neg e2] at h2
      have := h.tr _ _ _ h1 h2
      by_cases e3 : a = c
      · subst e3; rw [h.ir] at this; cases this
      · rw [if_neg e3]; exact this
 tot := fun ⟨a, a'⟩ ⟨b, b'⟩ hn => by
  simp only [lexP]
  by_cases e : a = b
  · subst e
    rw [if_pos rfl, if_pos rfl]
    exact k.tot _ _ fun z => hn (by rw [z])
  · rw [if_neg e, if_neg (Ne.symm e)]
    exact h.tot _ _ e
def lexL {α : Type} [DecidableEq α] (l : α → α → Bool) : List α → List α → Bool
 | [], [] => false
 | [], _ :: _ => true
 | _ :: _, [] => false
 | x :: xs, y :: ys => if x = y then lexL l xs ys else l x y
theorem STo.list {α : Type} [DecidableEq α] {l : α → α → Bool} (h : STo l) : STo (lexL l) where
 ir := fun a => by
  induction a with
  | nil => rfl
  | cons x xs ih => simp [lexL, ih]
 tr := fun a => by
  induction a with
  | nil =>
   intro b c h1 h2
   cases b with
   | nil => simp [lexL] at h1
   | cons y ys =>
    cases c with
    | nil => simp [lexL] at h2
    | cons z zs => rfl
  | cons x xs ih =>
   intro b c h1 h2
   cases b with
   | nil => simp [lexL] at h1
   | cons y ys =>
    cases c with
    | nil => simp [lexL] at h2
    | cons z zs =>
     simp only [lexL] at *
     by_cases e1 : x = y
     · subst e1
       rw [if_pos rfl] at h1
       by_cases e2 : x = z
       · subst e2
         rw [if_pos rfl] at h2 ⊢
         exact ih _ _ h1 h2
       · rw [if_neg e2] at h2 ⊢
         exact h2
     · rw [if_neg e1] at h1
       by_cases e2 : y = z
       · subst e2
         rw [if_neg e1]
         exact h1
       · rw [if_neg e2] at h2
         have := h.tr _ _ _ h1 h2
         by_cases e3 : x = z
         · subst e3; rw [h.ir] at this; cases this
         · rw [if_neg e3]; exact this
 tot := fun a => by
  induction a with
  | nil =>
   intro b hn
   cases b with
   | nil => exact absurd rfl hn
   | cons y ys => exact .inl rfl
  | cons x xs ih =>
   intro b hn
   cases b with
   | nil => exact .inr rfl
   | cons y ys =>
    simp only [lexL]
    by_cases e : x = y
    · subst e
      rw [if_pos rfl, if_pos rfl]
      exact ih _ fun z => hn (by rw [z])
    · rw [if_neg e, if_neg (Ne.symm e)]
      exact h.tot _ _ e
def lpO : Option Int → Int × Int
 | none => (0, 0)
 | some l => (1, l)
def hpO : Option Int → Int × Int
 | none => (1, 0)
 | some h => (0, h)
def d2 (p : Int × Int) : PD := .tup [.int p.1, .int p.2]
def rkP (p : WP) : PD := .tup [.str p.1, d2 (lpO p.2.1), d2 (hpO p.2.2)]
def rkD (w : List WP) : PD := .lst (w.map rkP)
abbrev RKy := Str × (Int × Int) × (Int × Int)
def ky (p : WP) : RKy := (p.1, lpO p.2.1, hpO p.2.2)
def lt2 : Int × Int → Int × Int → Bool := lexP ltI ltI
def ltKy : RKy → RKy → Bool := lexP ltS (lexP lt2 lt2)
theorem sto_ky : STo (lexL ltKy) := (sto_str.pair ((sto_int.pair sto_int).pair (sto_int.pair sto_int))).list
theorem zd4 (p q : Int × Int) : pyEq (d2 p) (d2 q) = decide (p = q) := by
 obtain ⟨a, b⟩ := p
 obtain ⟨c, d⟩ := q
 unfold d2
 rw [pyEq, zbk, zbk, zbk, pyEq, pyEq, Bool.eq_iff_iff]
 simp
theorem zg5 (p q : Int × Int) : pyLt (d2 p) (d2 q) = lt2 p q := by
 obtain ⟨a, b⟩ := p
 obtain ⟨c, d⟩ := q
 unfold d2 lt2 lexP ltI
 rw [pyLt, zbA, pyEq, zbA, pyEq, zbA, pyLt, pyLt]
 by_cases h : a = c
 · subst h
   simp
   intro z; omega
 · simp [h]
theorem zhn (p q : Int × Int) : ltOk (d2 p) (d2 q) = true := by
 obtain ⟨a, b⟩ := p
 obtain ⟨c, d⟩ := q
 unfold d2
 rw [ltOk, zcj, zcj, zcj, ltOk, ltOk]
 all_goals simp
theorem zh9 (p q : WP) : pyEq (rkP p) (rkP q) = decide (ky p = ky q) := by
 unfold rkP ky
 rw [pyEq, zbk, zbk, zbk, zbk, zd4, zd4, pyEq, Bool.eq_iff_iff]
 simp
theorem zh8 (p q : WP) (hn : ky p ≠ ky q) : pyLt (rkP p) (rkP q) = ltKy (ky p) (ky q) := by
 have hn' := hn
 unfold rkP ltKy lexP
 unfold ky at *
 rw [pyLt, zbA, zbA, zbA, zbA, zd4, zd4, zg5, zg5, pyEq, pyLt]
 by_cases h : p.1 = q.1
 · simp only [h, beq_self_eq_true, if_true]
   by_cases h2 : lpO p.2.1 = lpO q.2.1
   · simp only [h2, decide_true, if_true]
     by_cases h3 : hpO p.2.2 = hpO q.2.2
     · exact absurd (by rw [h, h2, h3]) hn'
     · simp [h3]
   · simp [h2]
 · simp [h, ltS]
theorem zil (p q : WP) : ltOk (rkP p) (rkP q) = true := by
 unfold rkP
 rw [ltOk, zcj, zcj, zcj, zcj, zhn, zhn, ltOk]
 all_goals simp
theorem zf4 : ∀ w w' : List WP, zcj (w.map rkP) (w'.map rkP) = true
 | [], w' => by rw [List.map_nil, zcj]; all_goals simp
 | x :: r, [] => by rw [List.map_nil, zcj]; all_goals simp
 | x :: r, y :: r' => by
  rw [List.map_cons, List.map_cons, zcj, zil, zf4 r r']
  simp
theorem zjf (w w' : List WP) : ltOk (rkD w) (rkD w') = true := by
 unfold rkD
 rw [ltOk, zf4]
theorem zfW : ∀ w w' : List WP, zbA (w.map rkP) (w'.map rkP) = lexL ltKy (w.map ky) (w'.map ky)
 | [], [] => by rw [List.map_nil, zbA]; rfl
 | [], y :: r => by rw [List.map_nil, List.map_cons, zbA]; rfl
 | x :: r, [] => by rw [List.map_nil, List.map_cons, zbA]; rfl
 | x :: r, y :: r' => by
  rw [List.map_cons, List.map_cons, zbA, zh9, zfW r r', List.map_cons, List.map_cons, lexL]
  by_cases h : ky x = ky y
  · rw [if_pos (decide_eq_true h), if_pos h]
  · rw [if_neg (by simpa using h), if_neg h, zh8 x y h]
theorem zg4 (w w' : List WP) : pyLt (rkD w) (rkD w') = lexL ltKy (w.map ky) (w'.map ky) := by
 unfold rkD
 rw [pyLt, zfW]
theorem zjK (k : Nat → List WP) : KS.Ord fun i j => pyLt (rkD (k i)) (rkD (k j)) := by
 have := sto_ky.ord fun i => (k i).map ky
 simpa only [zg4] using this
theorem zhM (p : WP) : zay (rkP p) = 2 := by
 unfold rkP d2
 simp [zay, zav]
theorem zeN : ∀ w : List WP, zav (w.map rkP) ≤ 2
 | [] => by show zav [] ≤ 2; rw [zav]; omega
 | p :: w => by
  rw [List.map_cons, zav, zhM]
  have := zeN w
  omega
theorem ziv (w : List WP) : zay (rkD w) ≤ 3 := by
 unfold rkD
 rw [zay]
 have := zeN w
 omega
def zgQ : Sp := fun vs H Q _ => ∃ o : Option Int, vs = [eV o] ∧ ∀ t H', Same H H' → H' t = some (.tup [.int (lpO o).1, .int (lpO o).2]) → Q (.ref t) H'
def ze3 : Sp := fun vs H Q _ => ∃ o : Option Int, vs = [eV o] ∧ ∀ t H', Same H H' → H' t = some (.tup [.int (hpO o).1, .int (hpO o).2]) → Q (.ref t) H'
def zgP (K : PySem.W.Frag) : Sp := fun vs H Q _ => ∃ (a : Addr) (w : List WP), vs = [.ref a] ∧ WishAt H a w ∧ WOk w ∧ ∀ v H', Same H H' → Rep K H' (rkD w) v → Q v H'
def ze5 : Sp := fun vs H Q _ => ∃ (a : Addr) (w : List WP), vs = [.ref a, .int 3] ∧ WishAt H a w ∧ WOk w ∧ ∀ H', Same H H' → Q (.bl true) H'
def RkAt (H : Hp) (q : Addr × Addr × Addr × WP) : Prop := H q.1 = some (.tup [.str q.2.2.2.1, .ref q.2.1, .ref q.2.2.1]) ∧ H q.2.1 = some (.tup [.int (lpO q.2.2.2.2.1).1, .int (lpO q.2.2.2.2.1).2]) ∧ H q.2.2.1 = some (.tup [.int (hpO q.2.2.2.2.2).1, .int (hpO q.2.2.2.2.2).2])
theorem RkAt.keep {H H' : Hp} {q : Addr × Addr × Addr × WP} (h : RkAt H q) (s : Tups H H') : RkAt H' q := ⟨s _ _ h.1, s _ _ h.2.1, s _ _ h.2.2⟩
theorem ziG {K : PySem.W.Frag} {H : Hp} {t : Addr} {p : Int × Int} (h : H t = some (.tup [.int p.1, .int p.2])) : Rep K H (d2 p) (.ref t) := by
 unfold d2
 rw [Rep]
 refine ⟨t, _, rfl, SqT.of h, ?_⟩
 rw [Reps]
 refine ⟨_, _, rfl, by rw [Rep], ?_⟩
 rw [Reps]
 exact ⟨_, _, rfl, by rw [Rep], by rw [Reps]⟩
theorem zgY {K : PySem.W.Frag} {H : Hp} : ∀ qs : List (Addr × Addr × Addr × WP), (∀ q ∈ qs, RkAt H q) → Reps K H ((qs.map (·.2.2.2)).map rkP) (qs.map fun q => V.ref q.1)
 | [], _ => by show Reps K H [] []; rw [Reps]
 | q :: qs, h => by
  show Reps K H (rkP q.2.2.2 :: _) (V.ref q.1 :: _)
  rw [Reps]
  refine ⟨_, _, rfl, ?_, zgY qs fun r hr => h r (List.mem_cons_of_mem _ hr)⟩
  obtain ⟨h1, h2, h3⟩ := h q List.mem_cons_self
  unfold rkP
  rw [Rep]
  refine ⟨q.1, _, rfl, SqT.of h1, ?_⟩
  rw [Reps]
  refine ⟨_, _, rfl, by rw [Rep], ?_⟩
  rw [Reps]
  refine ⟨_, _, rfl, ziG h2, ?_⟩
  rw [Reps]
  exact ⟨_, _, rfl, ziG h3, by rw [Reps]⟩
theorem zjz {K : PySem.W.Frag} {H : Hp} {r : Addr} {qs : List (Addr × Addr × Addr × WP)} (e : H r = some (.lst (qs.map fun q => V.ref q.1))) (h : ∀ q ∈ qs, RkAt H q) : Rep K H (rkD (qs.map (·.2.2.2))) (.ref r) := by
 unfold rkD
 rw [Rep]
 exact ⟨r, _, rfl, SqL.of e, zgY qs h⟩
end L2
namespace L2
open PySem PySem.Spec PyProof.Rows PySem.W
section
variable {X : Cx}
def zki : R2 := fun x y H Q => ∃ a b xs ys, x = .ref a ∧ y = .ref b ∧ H a = some (.tup xs) ∧ H b = some (.tup ys) ∧ xs.length + ys.length ≤ sizeLine ∧ ∀ p H', Same H H' → H' p = some (.tup (xs ++ ys)) → Q (.ref p) H'
theorem zhg : OpR X (binaryOp .Add) zki := by
 intro pins s σ H x y v u Q I rx ry h
 obtain ⟨a, b, xs, ys, rfl, rfl, ha, hb, hz, q⟩ := h
 cases rx
 cases ry
 obtain ⟨its, r1, p1, _⟩ := I.tuple (SqT.of ha)
 obtain ⟨its2, r2, p2, _⟩ := I.tuple (SqT.of hb)
 by_cases hx : xs = []
 · subst hx
   cases r1
   obtain ⟨⟨cls, dd, data, sl⟩, ho, hc, n, hd⟩ := id p1
   obtain ⟨⟨cls2, dd2, data2, sl2⟩, ho2, hc2, n2, hd2⟩ := id p2
   simp only at hc hd hc2 hd2
   subst hc hd hc2 hd2
   exact concat_meets ⟨_, ho, rfl⟩ ⟨_, ho2, rfl⟩ noFill_tuple_add seq_tuple_add PySem.F.slot_tuple_add PySem.F.entry_tuple_add (PySem.F.args_tuple_add_2 _ _)
    (tuple_addW0 a b _ _ n n2 dd dd2 sl sl2 rfl) ⟨ho, ho2, ⟨.ref b, H, I, rfl, q b H (Same.refl _) hb⟩⟩
 · refine HT.cat_tup p1 p2 (fun z => hx (r1.nil_iff.mp z)) (fun z => ⟨.ref a, H, I, rfl, q a H (Same.refl _) (by rw [r2.nil_iff.mp z, List.append_nil]; exact ha)⟩) (fun z => ?_) (by rw [← r1.length, ← r2.length]; exact hz)
   have hn := I.hok.fresh (Nat.le_refl _)
   refine ⟨.ref s.heap.objs.size, _, I.laid (t' := s.toks) (o := .tup (xs ++ ys)) (fun b ob q => Heap.get?_push_of_some _ q) (Nat.le_refl _) ?_, rfl, q _ _ (zag hn _) zad⟩
   exact ⟨by rw [List.length_append]; exact hz, _, r1.append r2, IsTupP.new _ _⟩
def rSlU : V → Option Int → Option Int → Hp → VK → Prop := fun x lo hi H Q => ∃ a xs, x = .ref a ∧ H a = some (.tup xs) ∧ ∀ p H', Same H H' → H' p = some (.tup (cutV xs lo hi)) → Q (.ref p) H'
theorem zgF {xs : List V} {lo hi : Option Int} (h : HT.sIx xs.length 0 lo = 0 ∧ HT.sIx xs.length xs.length hi = xs.length) : cutV xs lo hi = xs := by
 unfold cutV
 rw [h.1, h.2, List.drop_zero, Nat.sub_zero]
 exact List.take_of_length_le (Nat.le_refl _)
theorem zfd : SlR X rSlU := by
 intro pins s σ H x v vl vu lo hi sl Q I rx hs pl pu h
 obtain ⟨a, xs, rfl, ha, q⟩ := h
 exact zgU pins s σ H (.ref a) v vl vu lo hi sl Q I rx hs pl pu ⟨a, xs, rfl, SqT.of ha, fun hw => q a H (Same.refl _) (by rw [zgF hw]; exact ha), fun _ p hp => q p _ (zag hp _) zad⟩
theorem zhS {xs : List V} {k : Int} {n : Nat} (e : k = (n : Int)) : cutV xs none (some k) = xs.take n := by
 subst e
 unfold cutV
 rw [HT.sIx_none, HT.sIx_nat, List.drop_zero, Nat.sub_zero]
 by_cases h : n ≤ xs.length
 · rw [Nat.min_eq_left h]
 · rw [Nat.min_eq_right (by omega), List.take_of_length_le (Nat.le_refl _), List.take_of_length_le (by omega)]
theorem zhT {xs : List V} {k : Int} {n : Nat} (e : k = (n : Int)) : cutV xs (some k) none = xs.drop n := by
 subst e
 unfold cutV
 rw [HT.sIx_none, HT.sIx_nat]
 by_cases h : n ≤ xs.length
 · rw [Nat.min_eq_left h]
   exact List.take_of_length_le (by simp)
 · rw [Nat.min_eq_right (by omega), Nat.sub_self, List.take_zero, List.drop_eq_nil_of_le (by omega)]
end
end L2
namespace L2
open PySem PySem.Spec PyProof.Rows
def zbv : Bool → Keyed → Array Keyed → Nat → Nat → Nat → StateT SortSt Sem (Option Nat) := sortPriv% PySem.Builtin.gallop
theorem zgD (left : Bool) (key : Keyed) (arr : Array Keyed) (base n hint : Nat) : zbv left key arr base n hint = (do
 let beyond (i : Nat) : StateT SortSt Sem (Option Bool) := do
  let x ← elem' arr (base + i)
  if left then lt' x key else return (← lt' key x).map (!·)
 let mut lastofs := 0
 let mut ofs := 1
 let mut lo := 0
 let mut hi := 0
 let some right ← beyond hint | return none
 if right then
  let maxofs := n - hint
  for _ in [0:n] do
   if ofs ≥ maxofs then break
   let some more ← beyond (hint + ofs) | return none
   if !more then break
   lastofs := ofs
   ofs := 2 * ofs + 1
  lo := hint + lastofs + 1
  hi := hint + min ofs maxofs
 else
  let maxofs := hint + 1
  for _ in [0:n] do
   if ofs ≥ maxofs then break
   let some found ← beyond (hint - ofs) | return none
   if found then break
   lastofs := ofs
   ofs := 2 * ofs + 1
  lo := hint + 1 - min ofs maxofs
  hi := hint - lastofs
 for _ in [0:n] do
  if lo ≥ hi then break
  let m := lo + (hi - lo) / 2
  let some more ← beyond m | return none
  if more then lo := m + 1 else hi := m
 return some hi) := rfl
section
variable {prog : Program} {w : World} {A : Around} {E : Value → Shared → Prop} {s : Shared}
structure Cut (B : Nat → Bool) (n k : Nat) : Prop where
 le : k ≤ n
 yes : ∀ i, i < k → B i = true
 no : ∀ i, k ≤ i → i < n → B i = false
theorem ziU {left : Bool} {key : Keyed} {arr : Array Keyed} {base n : Nat} {st : SortSt} {Q : Option Nat → SortSt → Prop} (B : Nat → Bool)
 (hask : ∀ i, i < n → ∀ Q' : Option Bool → SortSt → Prop, Q' (some (B i)) st → wpS (model prog w) A E s (do
  let x ← elem' arr (base + i)
  if left then lt' x key else return (← lt' key x).map (!·)) Q' st)
 (hanti : ∀ i j, i < j → j < n → B j = true → B i = true) (lo0 hi0 : Nat) (h1 : lo0 ≤ hi0) (h2 : hi0 ≤ n) (hy : ∀ i, i < lo0 → B i = true) (hn : ∀ i, hi0 ≤ i → i < n → B i = false)
 (q : ∀ k, Cut B n k → Q (some k) st) : wpS (model prog w) A E s (do
  let beyond (i : Nat) : StateT SortSt Sem (Option Bool) := do
   let x ← elem' arr (base + i)
   if left then lt' x key else return (← lt' key x).map (!·)
  let mut lo := lo0
  let mut hi := hi0
  for _ in [0:n] do
   if lo ≥ hi then break
   let m := lo + (hi - lo) / 2
   let some more ← beyond m | return none
   if more then lo := m + 1 else hi := m
  return some hi) Q st := by
 dsimp only
 refine wpS_bind (wpS_mono (wpS_forRange
  (I := fun x c st' => st' = st ∧ ∃ lo hi, c = (none, lo, hi) ∧ lo ≤ hi ∧ hi ≤ n ∧ (∀ i, i < lo → B i = true) ∧ (∀ i, hi ≤ i → i < n → B i = false) ∧ hi - lo + x ≤ n)
  (Q := fun c st' => st' = st ∧ ∃ k, c = (none, k, k) ∧ Cut B n k) ?step ?fin ⟨rfl, lo0, hi0, rfl, h1, h2, hy, hn, by omega⟩) ?post)
 case step =>
  rintro i c st' _ hi ⟨rfl, lo, hi', rfl, a1, a2, a3, a4, a5⟩
  dsimp only
  by_cases h : lo ≥ hi'
  · rw [if_pos h]
    obtain rfl : lo = hi' := by omega
    exact wpS_pure ⟨rfl, lo, rfl, a2, a3, a4⟩
  · rw [if_neg h]
    refine wpS_bind (hask _ (by omega) _ ?_)
    dsimp only
    cases hb : B (lo + (hi' - lo) / 2) with
    | true =>
     rw [if_pos rfl]
     refine wpS_pure ⟨rfl, _, _, rfl, by omega, a2, fun j hj => ?_, a4, by omega⟩
     rcases Nat.lt_or_ge j (lo + (hi' - lo) / 2) with z | z
     · exact hanti _ _ z (by omega) hb
     · rw [show j = lo + (hi' - lo) / 2 by omega]; exact hb
    | false =>
     rw [if_neg (by simp)]
     refine wpS_pure ⟨rfl, _, _, rfl, by omega, by omega, a3, fun j hj hjn => ?_, by omega⟩
     cases e : B j with
     | false => rfl
     | true =>
      rcases Nat.lt_or_ge (lo + (hi' - lo) / 2) j with z | z
      · rw [hanti _ _ z hjn e] at hb; cases hb
      · rw [show j = lo + (hi' - lo) / 2 by omega, hb] at e; cases e
 case fin =>
  rintro c st' ⟨rfl, lo, hi', rfl, a1, a2, a3, a4, a5⟩
  obtain rfl : lo = hi' := by omega
  exact ⟨rfl, lo, rfl, a2, a3, a4⟩
 case post =>
  rintro c st' ⟨rfl, k, rfl, hk⟩
  dsimp only
  exact wpS_pure (q k hk)
theorem zeM {left : Bool} {key : Keyed} {arr : Array Keyed} {base n hint : Nat} {st : SortSt} {Q : Option Nat → SortSt → Prop} (B : Nat → Bool)
 (hask : ∀ i, i < n → ∀ Q' : Option Bool → SortSt → Prop, Q' (some (B i)) st → wpS (model prog w) A E s (do
  let x ← elem' arr (base + i)
  if left then lt' x key else return (← lt' key x).map (!·)) Q' st)
 (hanti : ∀ i j, i < j → j < n → B j = true → B i = true) (hh : hint < n) (q : ∀ k, Cut B n k → Q (some k) st) : wpS (model prog w) A E s (zbv left key arr base n hint) Q st := by
 rw [zgD]
 dsimp only
 refine wpS_bind (hask hint hh _ ?_)
 dsimp only
 have anti0 : ∀ {i j : Nat}, i ≤ j → j < n → B j = true → B i = true := fun {i j} h1 h2 h3 => by
  rcases Nat.lt_or_ge i j with z | z
  · exact hanti i j z h2 h3
  · rw [show i = j by omega]; exact h3
 have antif : ∀ {i j : Nat}, i ≤ j → j < n → B i = false → B j = false := fun {i j} h1 h2 h3 => by
  cases e : B j with
  | false => rfl
  | true => rw [anti0 h1 h2 e] at h3; cases h3
 cases hb : B hint with
 | true =>
  rw [if_pos rfl]
  refine wpS_bind (wpS_mono (wpS_forRange
   (I := fun x c st' => st' = st ∧ ∃ la o, c = (none, la, o) ∧ B (hint + la) = true ∧ la < o ∧ hint + la < n ∧ x + 1 ≤ o)
   (Q := fun c st' => st' = st ∧ ∃ la o, c = (none, la, o) ∧ B (hint + la) = true ∧ la < o ∧ hint + la < n ∧ (n - hint ≤ o ∨ B (hint + o) = false)) ?step ?fin ⟨rfl, 0, 1, rfl, hb, by omega, by omega, by omega⟩) ?post)
  case step =>
   rintro i c st' _ hi ⟨rfl, la, o, rfl, a1, a2, a3, a4⟩
   dsimp only
   by_cases h : o ≥ n - hint
   · rw [if_pos h]
     exact wpS_pure ⟨rfl, la, o, rfl, a1, a2, a3, .inl h⟩
   · rw [if_neg h]
     refine wpS_bind (hask _ (by omega) _ ?_)
     dsimp only
     cases hc : B (hint + o) with
     | true =>
      rw [if_neg (by simp)]
      exact wpS_pure ⟨rfl, o, _, rfl, hc, by omega, by omega, by omega⟩
     | false =>
      rw [if_pos (by simp)]
      exact wpS_pure ⟨rfl, la, o, rfl, a1, a2, a3, .inr hc⟩
  case fin =>
   rintro c st' ⟨rfl, la, o, rfl, a1, a2, a3, a4⟩
   exact ⟨rfl, la, o, rfl, a1, a2, a3, .inl (by omega)⟩
  case post =>
   rintro c st' ⟨rfl, la, o, rfl, a1, a2, a3, a4⟩
   dsimp only
   refine ziU B hask hanti _ _ (by omega) (by omega) (fun i hi => anti0 (show i ≤ hint + la by omega) a3 a1) (fun i hi hin => ?_) q
   rcases a4 with z | z
   · omega
   · rcases Nat.lt_or_ge o (n - hint) with y | y
     · exact antif (show hint + o ≤ i by omega) hin z
     · omega
 | false =>
  rw [if_neg (by simp)]
  refine wpS_bind (wpS_mono (wpS_forRange
   (I := fun x c st' => st' = st ∧ ∃ la o, c = (none, la, o) ∧ B (hint - la) = false ∧ la < o ∧ la ≤ hint ∧ x + 1 ≤ o)
   (Q := fun c st' => st' = st ∧ ∃ la o, c = (none, la, o) ∧ B (hint - la) = false ∧ la < o ∧ la ≤ hint ∧ (hint + 1 ≤ o ∨ (o ≤ hint ∧ B (hint - o) = true))) ?step2 ?fin2 ⟨rfl, 0, 1, rfl, hb, by omega, by omega, by omega⟩) ?post2)
  case step2 =>
   rintro i c st' _ hi ⟨rfl, la, o, rfl, a1, a2, a3, a4⟩
   dsimp only
   by_cases h : o ≥ hint + 1
   · rw [if_pos h]
     exact wpS_pure ⟨rfl, la, o, rfl, a1, a2, a3, .inl h⟩
   · rw [if_neg h]
     refine wpS_bind (hask _ (by omega) _ ?_)
     dsimp only
     cases hc : B (hint - o) with
     | false =>
      rw [if_neg (by simp)]
      exact wpS_pure ⟨rfl, o, _, rfl, hc, by omega, by omega, by omega⟩
     | true =>
      rw [if_pos rfl]
      exact wpS_pure ⟨rfl, la, o, rfl, a1, a2, a3, .inr ⟨by omega, hc⟩⟩
  case fin2 =>
   rintro c st' ⟨rfl, la, o, rfl, a1, a2, a3, a4⟩
   exact ⟨rfl, la, o, rfl, a1, a2, a3, .inl (by omega)⟩
  case post2 =>
   rintro c st' ⟨rfl, la, o, rfl, a1, a2, a3, a4⟩
   dsimp only
   refine ziU B hask hanti _ _ (by omega) (by omega) (fun i hi => ?_) (fun i hi hin => antif (show hint - la ≤ i by omega) hin a1) q
   rcases a4 with z | ⟨z, y⟩
   · omega
   · exact anti0 (show i ≤ hint - o by omega) (by omega) y
end
section
variable {α : Type} {L : α → α → Bool}
structure LOrd (L : α → α → Bool) : Prop where
 asym : ∀ x y, L x y = true → L y x = false
 ntr : ∀ x y z, L x y = false → L y z = false → L x z = false
theorem LOrd.irr (O : LOrd L) (x : α) : L x x = false := by
 cases h : L x x with
 | false => rfl
 | true => rw [O.asym x x h] at h; cases h
abbrev SrtL (L : α → α → Bool) (l : List α) : Prop := l.Pairwise fun x y => L y x = false
structure MInv (L : α → α → Bool) (a b out : List α) (ia ib : Nat) : Prop where
 perm : (out ++ (a.drop ia ++ b.drop ib)).Perm (a ++ b)
 srt : SrtL L out
 le : ∀ x ∈ out, ∀ y ∈ a.drop ia ++ b.drop ib, L y x = false
variable {a b out : List α} {ia ib k : Nat}
theorem zaS {l m : List α} (h1 : SrtL L l) (h2 : SrtL L m) (h : ∀ x ∈ l, ∀ y ∈ m, L y x = false) : SrtL L (l ++ m) := List.pairwise_append.mpr ⟨h1, h2, h⟩
theorem MInv.takeA (I : MInv L a b out ia ib) (sa : SrtL L a) (h : ∀ x ∈ (a.drop ia).take k, ∀ y ∈ b.drop ib, L y x = false) : MInv L a b (out ++ (a.drop ia).take k) (ia + k) ib := by
 have e : a.drop ia = (a.drop ia).take k ++ a.drop (ia + k) := by rw [← List.drop_drop, List.take_append_drop]
 have sd : SrtL L (a.drop ia) := sa.sublist (List.drop_sublist _ _)
 refine ⟨?_, ?_, ?_⟩
 · refine List.Perm.trans ?_ I.perm
   conv => rhs; rw [e]
   simp only [List.append_assoc]
   exact List.Perm.refl _
 · refine zaS I.srt (sd.sublist (List.take_sublist _ _)) fun x hx y hy => I.le x hx y (List.mem_append_left _ (List.mem_of_mem_take hy))
 · intro x hx y hy
   rcases List.mem_append.mp hx with hx | hx
   · refine I.le x hx y ?_
     rcases List.mem_append.mp hy with hy | hy
     · rw [e]; exact List.mem_append_left _ (List.mem_append_right _ hy)
     · exact List.mem_append_right _ hy
   · rcases List.mem_append.mp hy with hy | hy
     · rw [e] at sd
       exact (List.pairwise_append.mp sd).2.2 x hx y hy
     · exact h x hx y hy
theorem MInv.takeB (I : MInv L a b out ia ib) (sb : SrtL L b) (h : ∀ x ∈ (b.drop ib).take k, ∀ y ∈ a.drop ia, L y x = false) : MInv L a b (out ++ (b.drop ib).take k) ia (ib + k) := by
 have e : b.drop ib = (b.drop ib).take k ++ b.drop (ib + k) := by rw [← List.drop_drop, List.take_append_drop]
 have sd : SrtL L (b.drop ib) := sb.sublist (List.drop_sublist _ _)
 refine ⟨?_, ?_, ?_⟩
 · refine List.Perm.trans ?_ I.perm
   conv => rhs; rw [e]
   simp only [List.append_assoc]
   refine List.Perm.append_left out ?_
   rw [← List.append_assoc, ← List.append_assoc]
   exact List.Perm.append_right _ List.perm_append_comm
 · refine zaS I.srt (sd.sublist (List.take_sublist _ _)) fun x hx y hy => I.le x hx y (List.mem_append_right _ (List.mem_of_mem_take hy))
 · intro x hx y hy
   rcases List.mem_append.mp hx with hx | hx
   · refine I.le x hx y ?_
     rcases List.mem_append.mp hy with hy | hy
     · exact List.mem_append_left _ hy
     · rw [e]; exact List.mem_append_right _ (List.mem_append_right _ hy)
   · rcases List.mem_append.mp hy with hy | hy
     · exact h x hx y hy
     · rw [e] at sd
       exact (List.pairwise_append.mp sd).2.2 x hx y hy
theorem zbP {l : List α} {i : Nat} {x : α} (h : l[i]? = some x) : (l.drop i).take 1 = [x] := by
 obtain ⟨hi, e⟩ := List.getElem?_eq_some_iff.mp h
 rw [List.drop_eq_getElem_cons hi, e]
 rfl
theorem MInv.pushA (I : MInv L a b out ia ib) (sa : SrtL L a) {x : α} (hx : a[ia]? = some x) (h : ∀ y ∈ b.drop ib, L y x = false) : MInv L a b (out ++ [x]) (ia + 1) ib := by
 have := I.takeA (k := 1) sa (by rw [zbP hx]; intro z hz; rw [List.mem_singleton.mp hz]; exact h)
 rw [zbP hx] at this
 exact this
theorem MInv.pushB (I : MInv L a b out ia ib) (sb : SrtL L b) {x : α} (hx : b[ib]? = some x) (h : ∀ y ∈ a.drop ia, L y x = false) : MInv L a b (out ++ [x]) ia (ib + 1) := by
 have := I.takeB (k := 1) sb (by rw [zbP hx]; intro z hz; rw [List.mem_singleton.mp hz]; exact h)
 rw [zbP hx] at this
 exact this
theorem MInv.done1 (I : MInv L a b out ia ib) (sa : SrtL L a) (h : ib = b.length) : (out ++ a.drop ia ++ b.drop ib).Perm (a ++ b) ∧ SrtL L (out ++ a.drop ia ++ b.drop ib) := by
 refine ⟨by rw [List.append_assoc]; exact I.perm, ?_⟩
 rw [h, List.drop_length, List.append_nil]
 exact zaS I.srt (sa.sublist (List.drop_sublist _ _)) fun x hx y hy => I.le x hx y (List.mem_append_left _ hy)
theorem MInv.done2 (I : MInv L a b out ia ib) (sb : SrtL L b) (h : ia = a.length) : (out ++ a.drop ia ++ b.drop ib).Perm (a ++ b) ∧ SrtL L (out ++ a.drop ia ++ b.drop ib) := by
 refine ⟨by rw [List.append_assoc]; exact I.perm, ?_⟩
 rw [h, List.drop_length, List.append_nil]
 exact zaS I.srt (sb.sublist (List.drop_sublist _ _)) fun x hx y hy => I.le x hx y (List.mem_append_right _ hy)
theorem MInv.last (I : MInv L a b out ia ib) (sb : SrtL L b) {z : α} (hz : a.drop ia = [z]) (h : ∀ y ∈ b, L z y = false) : (out ++ b.drop ib ++ a.drop ia).Perm (a ++ b) ∧ SrtL L (out ++ b.drop ib ++ a.drop ia) := by
 refine ⟨?_, ?_⟩
 · refine List.Perm.trans ?_ I.perm
   rw [List.append_assoc]
   exact List.Perm.append_left out List.perm_append_comm
 · rw [hz]
   refine zaS (zaS I.srt (sb.sublist (List.drop_sublist _ _)) fun x hx y hy => I.le x hx y (List.mem_append_right _ hy)) (by simp) fun x hx y hy => ?_
   rw [List.mem_singleton.mp hy]
   rcases List.mem_append.mp hx with hx | hx
   · exact I.le x hx z (List.mem_append_left _ (by rw [hz]; simp))
   · exact h x (List.mem_of_mem_drop hx)
end
def zaL : Nat → StateT SortSt Sem Unit := sortPriv% PySem.Builtin.setMinGallop
theorem zc0 (g : Nat) : zaL g = modify fun s => SortSt.mk' (kindOf s) (arrOf s) (pendingOf s) g (failedOf s) := rfl
def zea : Array Keyed → Array Keyed → StateT SortSt Sem (Array Keyed) := sortPriv% PySem.Builtin.mergeLo
theorem zfB (a b : Array Keyed) : zea a b = (do
 rule "list.sort.merge-lo"
 let total := a.size + b.size
 let done (out : Array Keyed) (ia ib : Nat) := out ++ a.extract ia a.size ++ b.extract ib b.size
 let lastOfA (out : Array Keyed) (ia ib : Nat) := out ++ b.extract ib b.size ++ a.extract ia a.size
 let mut out : Array Keyed := #[← elem' b 0]
 let mut ia := 0
 let mut ib := 1
 if ib == b.size then return done out ia ib
 if ia + 1 == a.size then return lastOfA out ia ib
 let mut minGallop := gallopOf (← get)
 for _ in [0:total] do
  let mut acount := 0
  let mut bcount := 0
  for _ in [0:total] do
   let some bWins ← lt' (← elem' b ib) (← elem' a ia) | return done out ia ib
   if bWins then
    out := out.push (← elem' b ib); ib := ib + 1; bcount := bcount + 1; acount := 0
    if ib == b.size then return done out ia ib
    if bcount ≥ minGallop then break
   else
    out := out.push (← elem' a ia); ia := ia + 1; acount := acount + 1; bcount := 0
    if ia + 1 == a.size then return lastOfA out ia ib
    if acount ≥ minGallop then break
  rule "list.sort.gallop"
  minGallop := minGallop + 1
  for _ in [0:total] do
   if minGallop > 1 then minGallop := minGallop - 1
   zaL minGallop
   let some k ← zbv false (← elem' b ib) a ia (a.size - ia) 0 | return done out ia ib
   acount := k
   if k > 0 then
    out := out ++ a.extract ia (ia + k); ia := ia + k
    if ia + 1 == a.size then return lastOfA out ia ib
    if ia == a.size then return done out ia ib
   out := out.push (← elem' b ib); ib := ib + 1
   if ib == b.size then return done out ia ib
   let some k ← zbv true (← elem' a ia) b ib (b.size - ib) 0 | return done out ia ib
   bcount := k
   if k > 0 then
    out := out ++ b.extract ib (ib + k); ib := ib + k
    if ib == b.size then return done out ia ib
   out := out.push (← elem' a ia); ia := ia + 1
   if ia + 1 == a.size then return lastOfA out ia ib
   if acount < 7 && bcount < 7 then break
  minGallop := minGallop + 1
  zaL minGallop
 unsupported "internal:list.sort.merge-bound") := rfl
section
variable {prog : Program} {w : World} {A : Around} {E : Value → Shared → Prop} {s : Shared} {κ : SortKind} {L : Keyed → Keyed → Bool} {S : Keyed → Prop}
def Asks (prog : Program) (w : World) (A : Around) (E : Value → Shared → Prop) (s : Shared) (κ : SortKind) (L : Keyed → Keyed → Bool) (S : Keyed → Prop) : Prop :=
 ∀ x y (st : SortSt) (Q : Option Bool → SortSt → Prop), S x → S y → kindOf st = κ → Q (some (L x y)) st → wpS (model prog w) A E s (lt' x y) Q st
def StG (st st' : SortSt) : Prop := ∃ g, st' = SortSt.mk' (kindOf st) (arrOf st) (pendingOf st) g (failedOf st)
theorem StG.kind {st st' : SortSt} (h : StG st st') (hk : kindOf st = κ) : kindOf st' = κ := by obtain ⟨g, rfl⟩ := h; exact hk
theorem StG.set {st st' : SortSt} (h : StG st st') (g : Nat) : StG st (SortSt.mk' (kindOf st') (arrOf st') (pendingOf st') g (failedOf st')) := by obtain ⟨g', rfl⟩ := h; exact ⟨g, rfl⟩
theorem zaB {arr : Array Keyed} {i : Nat} {x : Keyed} {st : SortSt} {Q : Keyed → SortSt → Prop} (h : arr[i]? = some x) (q : Q x st) : wpS (model prog w) A E s (elem' arr i) Q st := by
 rw [elem'_eq, h]; exact wpS_pure q
theorem zco {r : String} {st : SortSt} {Q : Unit → SortSt → Prop} (q : Q () st) : wpS (model prog w) A E s (liftM (rule r) : StateT SortSt Sem Unit) Q st :=
 wpS_lift (wpAny_rule ⟨rfl, q⟩)
theorem zi4 {g : Nat} {st : SortSt} {Q : Unit → SortSt → Prop} (q : Q () (SortSt.mk' (kindOf st) (arrOf st) (pendingOf st) g (failedOf st))) : wpS (model prog w) A E s (zaL g) Q st := by
 rw [zc0]; exact wpS_modify q
theorem zcN (a : Array Keyed) (i : Nat) : (a.extract i a.size).toList = a.toList.drop i := by
 rw [Array.toList_extract, List.extract_eq_drop_take]
 rw [List.take_of_length_le (by simp)]
theorem zfJ (a : Array Keyed) (i k : Nat) : (a.extract i (i + k)).toList = (a.toList.drop i).take k := by
 rw [Array.toList_extract, List.extract_eq_drop_take]
 rw [show i + k - i = k by omega]
theorem zaJ {a : Array Keyed} {i : Nat} (h : i < a.size) : ∃ x, a[i]? = some x ∧ a.toList[i]? = some x ∧ x ∈ a.toList := ⟨a[i], by simp [h], by simp [h], by simp⟩
theorem zbS (O : LOrd L) (K : Asks prog w A E s κ L S) {left : Bool} {key : Keyed} {arr : Array Keyed} {base n hint : Nat} {st : SortSt} {Q : Option Nat → SortSt → Prop} (hk : kindOf st = κ) (hS : ∀ x ∈ arr.toList, S x) (hkey : S key) (srt : SrtL L arr.toList) (hn : base + n ≤ arr.size) (hh : hint < n)
 (q : ∀ k, k ≤ n → (∀ (i : Nat) x, i < k → arr.toList[base + i]? = some x → (if left then L x key else !L key x) = true) → (∀ (i : Nat) x, k ≤ i → i < n → arr.toList[base + i]? = some x → (if left then L x key else !L key x) = false) → Q (some k) st) :
 wpS (model prog w) A E s (zbv left key arr base n hint) Q st := by
 have get : ∀ i, i < n → ∃ x, arr[base + i]? = some x ∧ arr.toList[base + i]? = some x ∧ x ∈ arr.toList := fun i hi => zaJ (by omega)
 refine zeM (fun i => match arr[base + i]? with | some x => (if left then L x key else !L key x) | none => false) (fun i hi Q' q' => ?_) (fun i j hij hj hb => ?_) hh fun k hc => q k hc.le (fun i x hi hx => ?_) fun i x h1 h2 hx => ?_
 · obtain ⟨x, e, _, hm⟩ := get i hi
   rw [e] at q'
   refine wpS_bind (zaB e ?_)
   cases left with
   | true => exact K x key st _ (hS x hm) hkey hk q'
   | false => exact wpS_bind (K key x st _ hkey (hS x hm) hk (wpS_pure q'))
 · obtain ⟨x, ex, ex', _⟩ := get i (by omega)
   obtain ⟨y, ey, ey', _⟩ := get j hj
   rw [ey] at hb
   show (match arr[base + i]? with | some x => (if left then L x key else !L key x) | none => false) = true
   rw [ex]
   have le : L y x = false := by
    obtain ⟨h1, e1⟩ := List.getElem?_eq_some_iff.mp ex'
    obtain ⟨h2, e2⟩ := List.getElem?_eq_some_iff.mp ey'
    have := List.pairwise_iff_getElem.mp srt (base + i) (base + j) h1 h2 (by omega)
    rw [e1, e2] at this
    exact this
   cases left with
   | true =>
    have hb : L y key = true := hb
    show L x key = true
    cases z : L x key with
    | true => rfl
    | false => rw [O.ntr y x key le z] at hb; cases hb
   | false =>
    have hb : (!L key y) = true := hb
    show (!L key x) = true
    have hb : L key y = false := by simpa using hb
    rw [O.ntr key y x hb le]
    rfl
 · have := hc.yes i hi
   obtain ⟨y, ey, ey', _⟩ := get i (by have := hc.le; omega)
   rw [ey] at this
   rw [hx] at ey'
   cases ey'
   exact this
 · have := hc.no i h1 h2
   obtain ⟨y, ey, ey', _⟩ := get i h2
   rw [ey] at this
   rw [hx] at ey'
   cases ey'
   exact this
end
end L2
set_option maxHeartbeats 4000000
namespace L2
open PySem PySem.Spec PyProof.Rows
section
variable {prog : Program} {w : World} {A : Around} {E : Value → Shared → Prop} {s : Shared} {κ : SortKind} {L : Keyed → Keyed → Bool} {S : Keyed → Prop}
def Res (L : Keyed → Keyed → Bool) (a b o : Array Keyed) : Prop := o.toList.Perm (a.toList ++ b.toList) ∧ SrtL L o.toList
variable {a b out : Array Keyed} {ia ib : Nat}
abbrev MI (L : Keyed → Keyed → Bool) (a b out : Array Keyed) (ia ib : Nat) : Prop := MInv L a.toList b.toList out.toList ia ib
theorem res1 (I : MI L a b out ia ib) (sa : SrtL L a.toList) (h : ib = b.size) : Res L a b (out ++ a.extract ia a.size ++ b.extract ib b.size) := by
 unfold Res
 rw [Array.toList_append, Array.toList_append, zcN, zcN]
 exact I.done1 sa (by simpa using h)
theorem res2 (I : MI L a b out ia ib) (sb : SrtL L b.toList) (h : ia = a.size) : Res L a b (out ++ a.extract ia a.size ++ b.extract ib b.size) := by
 unfold Res
 rw [Array.toList_append, Array.toList_append, zcN, zcN]
 exact I.done2 sb (by simpa using h)
theorem resL (I : MI L a b out ia ib) (sb : SrtL L b.toList) (h : ia + 1 = a.size) (hl : ∀ z, a[a.size - 1]? = some z → ∀ y ∈ b.toList, L z y = false) : Res L a b (out ++ b.extract ib b.size ++ a.extract ia a.size) := by
 unfold Res
 rw [Array.toList_append, Array.toList_append, zcN, zcN]
 obtain ⟨x, e1, e2, _⟩ := zaJ (a := a) (i := ia) (by omega)
 refine I.last sb (z := x) ?_ (hl x (by rw [show a.size - 1 = ia by omega]; exact e1))
 have := zbP e2
 rw [List.take_of_length_le (by simp; omega)] at this
 exact this
theorem zbN (O : LOrd L) {l : List Keyed} (sl : SrtL L l) {i : Nat} {x : Keyed} (h : l[i]? = some x) : ∀ z ∈ l.drop i, L z x = false := by
 intro z hz
 obtain ⟨hi, e⟩ := List.getElem?_eq_some_iff.mp h
 rw [List.drop_eq_getElem_cons hi, e] at hz
 rcases List.mem_cons.mp hz with rfl | hz
 · exact O.irr _
 · obtain ⟨j, hj, ej⟩ := List.mem_iff_getElem.mp hz
   rw [List.getElem_drop] at ej
   rw [List.length_drop] at hj
   have := List.pairwise_iff_getElem.mp sl i (i + 1 + j) hi (by omega) (by omega)
   rw [e, ej] at this
   exact this
theorem zcg {l : List Keyed} {i k : Nat} {x : Keyed} (h : x ∈ (l.drop i).take k) : ∃ j, j < k ∧ l[i + j]? = some x := by
 obtain ⟨j, hj, e⟩ := List.mem_iff_getElem.mp h
 rw [List.length_take] at hj
 refine ⟨j, by omega, ?_⟩
 rw [List.getElem_take, List.getElem_drop] at e
 rw [← e]
 exact List.getElem?_eq_getElem _
theorem zaV {l : List Keyed} {i : Nat} {x : Keyed} (h : x ∈ l.drop i) : ∃ j, i ≤ j ∧ j < l.length ∧ l[j]? = some x := by
 obtain ⟨j, hj, e⟩ := List.mem_iff_getElem.mp h
 rw [List.length_drop] at hj
 rw [List.getElem_drop] at e
 exact ⟨i + j, by omega, by omega, by rw [← e]; exact List.getElem?_eq_getElem _⟩
theorem zcM {g : Nat} {st st' : SortSt} {Q : Unit → SortSt → Prop} (h : StG st st') (q : ∀ st3, StG st st3 → Q () st3) : wpS (model prog w) A E s (zaL g) Q st' := zi4 (q _ (h.set g))
theorem zgy (O : LOrd L) (K : Asks prog w A E s κ L S) {st : SortSt} {Q : Array Keyed → SortSt → Prop} (hk : kindOf st = κ) (hSa : ∀ x ∈ a.toList, S x) (hSb : ∀ x ∈ b.toList, S x) (sa : SrtL L a.toList) (sb : SrtL L b.toList) (ha : 1 ≤ a.size) (hb : 1 ≤ b.size)
 (hf : ∀ y, b[0]? = some y → ∀ x ∈ a.toList, L x y = false) (hl : ∀ z, a[a.size - 1]? = some z → ∀ y ∈ b.toList, L z y = false) (q : ∀ o st', StG st st' → Res L a b o → Q o st') : wpS (model prog w) A E s (zea a b) Q st := by
 rw [zfB]
 dsimp only
 refine wpS_bind (zco ?_)
 obtain ⟨y0, e0, e0', m0⟩ := zaJ (a := b) (i := 0) (by omega)
 refine wpS_bind (zaB e0 ?_)
 have I0 : MI L a b #[y0] 0 1 := by
  have z : MI L a b #[] 0 0 := ⟨by simp, by simp, by simp⟩
  exact z.pushB sb e0' (by rw [List.drop_zero]; exact hf y0 e0)
 by_cases h1 : 1 = b.size
 · rw [if_pos (by simpa using h1)]
   exact wpS_pure (q _ _ ⟨_, rfl⟩ (res1 I0 sa h1))
 rw [if_neg (by simpa using h1)]
 by_cases h2 : 0 + 1 = a.size
 · rw [if_pos (by simpa using h2)]
   exact wpS_pure (q _ _ ⟨_, rfl⟩ (resL I0 sb h2 hl))
 rw [if_neg (by simpa using h2)]
 refine wpS_bind (wpS_get ?_)
 have sz : ∀ {o : Array Keyed} {i j : Nat}, MI L a b o i j → True := fun _ => trivial
 refine wpS_bind (wpS_mono (wpS_forRange
  (I := fun x c st' => StG st st' ∧ ∃ o i j g, c = (none, o, i, j, g) ∧ MI L a b o i j ∧ i + 1 < a.size ∧ j < b.size ∧ x + 1 ≤ i + j)
  (Q := fun c st' => StG st st' ∧ ∃ o, c.1 = some o ∧ Res L a b o) ?step ?fin ⟨⟨_, rfl⟩, _, _, _, _, rfl, I0, by omega, by omega, by omega⟩) ?post)
 case fin =>
  rintro c st' ⟨_, o, i, j, g, rfl, I, h3, h4, h5⟩
  omega
 case post =>
  rintro c st' ⟨hst, o, e, r⟩
  rw [e]
  exact wpS_pure (q _ _ hst r)
 case step =>
  rintro x c st1 _ hx ⟨hs1, o1, i1, j1, g1, rfl, I1, a1, b1, c1⟩
  dsimp only
  refine wpS_bind (wpS_mono (wpS_forRange
   (I := fun y c st' => st' = st1 ∧ ∃ o i j p r, c = (none, o, i, j, p, r) ∧ MI L a b o i j ∧ i + 1 < a.size ∧ j < b.size ∧ i1 + j1 + y ≤ i + j)
   (Q := fun c st' => st' = st1 ∧ ((∃ o, c.1 = some o ∧ Res L a b o) ∨ ∃ o i j p r, c = (none, o, i, j, p, r) ∧ MI L a b o i j ∧ i + 1 < a.size ∧ j < b.size ∧ i1 + j1 + 1 ≤ i + j)) ?step1 ?fin1 ⟨rfl, _, _, _, _, _, rfl, I1, a1, b1, by omega⟩) ?post1)
  case fin1 =>
   rintro c st' ⟨_, o, i, j, p, r, rfl, I, h3, h4, h5⟩
   omega
  case step1 =>
   rintro y c st' _ hy ⟨rfl, o, i, j, p, r, rfl, I, h3, h4, h5⟩
   dsimp only
   obtain ⟨vb, eb, eb', mb⟩ := zaJ (a := b) (i := j) h4
   obtain ⟨va, ea, ea', ma⟩ := zaJ (a := a) (i := i) (by omega)
   refine wpS_bind (zaB eb (wpS_bind (zaB ea (wpS_bind (K vb va _ _ (hSb _ mb) (hSa _ ma) (hs1.kind hk) ?_)))))
   dsimp only
   cases hw : L vb va with
   | true =>
    rw [if_pos rfl]
    refine wpS_bind (zaB eb ?_)
    have I' : MI L a b (o.push vb) i (j + 1) := by
     have := I.pushB sb eb' fun z hz => O.ntr z va vb (zbN O sa ea' z hz) (O.asym _ _ hw)
     unfold MI
     rw [Array.toList_push]
     exact this
    by_cases h6 : j + 1 = b.size
    · rw [if_pos (by simpa using h6)]
      exact wpS_pure ⟨rfl, .inl ⟨_, rfl, res1 I' sa h6⟩⟩
    rw [if_neg (by simpa using h6)]
    by_cases h7 : r + 1 ≥ g1
    · rw [if_pos h7]
      exact wpS_pure ⟨rfl, .inr ⟨_, _, _, _, _, rfl, I', h3, by omega, by omega⟩⟩
    · rw [if_neg h7]
      exact wpS_pure ⟨rfl, _, _, _, _, _, rfl, I', h3, by omega, by omega⟩
   | false =>
    rw [if_neg (by simp)]
    refine wpS_bind (zaB ea ?_)
    have I' : MI L a b (o.push va) (i + 1) j := by
     have := I.pushA sa ea' fun z hz => O.ntr z vb va (zbN O sb eb' z hz) hw
     unfold MI
     rw [Array.toList_push]
     exact this
    by_cases h6 : i + 1 + 1 = a.size
    · rw [if_pos (by simpa using h6)]
      exact wpS_pure ⟨rfl, .inl ⟨_, rfl, resL I' sb h6 hl⟩⟩
    rw [if_neg (by simpa using h6)]
    by_cases h7 : p + 1 ≥ g1
    · rw [if_pos h7]
      exact wpS_pure ⟨rfl, .inr ⟨_, _, _, _, _, rfl, I', by omega, h4, by omega⟩⟩
    · rw [if_neg h7]
      exact wpS_pure ⟨rfl, _, _, _, _, _, rfl, I', by omega, h4, by omega⟩
  case post1 =>
   rintro c st' ⟨rfl, (⟨o, e, r⟩ | ⟨o, i, j, p, r, rfl, I, h3, h4, h5⟩)⟩
   · rw [e]
     exact wpS_pure ⟨hs1, _, rfl, r⟩
   dsimp only
   refine wpS_bind (zco ?_)
   refine wpS_bind (wpS_mono (wpS_forRange
    (I := fun y c st' => StG st st' ∧ ∃ o' i' j' g' p' r', c = (none, o', i', j', g', p', r') ∧ MI L a b o' i' j' ∧ i' + 1 < a.size ∧ j' < b.size ∧ i + j + y ≤ i' + j')
    (Q := fun c st' => StG st st' ∧ ((∃ o', c.1 = some o' ∧ Res L a b o') ∨ ∃ o' i' j' g' p' r', c = (none, o', i', j', g', p', r') ∧ MI L a b o' i' j' ∧ i' + 1 < a.size ∧ j' < b.size ∧ i + j ≤ i' + j')) ?step2 ?fin2 ⟨hs1, _, _, _, _, _, _, rfl, I, h3, h4, by omega⟩) ?post2)
   case fin2 =>
    rintro c st' ⟨_, o', i', j', g', p', r', rfl, I', h6, h7, h8⟩
    omega
   case post2 =>
    rintro c st' ⟨hs2, (⟨o', e, r'⟩ | ⟨o', i', j', g', p', r', rfl, I', h6, h7, h8⟩)⟩
    · rw [e]
      exact wpS_pure ⟨hs2, _, rfl, r'⟩
    dsimp only
    refine wpS_bind (zcM hs2 fun st3 hs3 => ?_)
    exact wpS_pure ⟨hs3, _, _, _, _, rfl, I', h6, h7, by omega⟩
   case step2 =>
    rintro y c st' _ hy ⟨hs2, o2, i2, j2, g2, p2, r2, rfl, I2, h6, h7, h8⟩
    dsimp only
    by_cases hg : g2 > 1
    · rw [if_pos hg]
      refine wpS_bind (zcM hs2 fun st3 hs3 => ?_)
      obtain ⟨vb, eb, eb', mb⟩ := zaJ (a := b) (i := j2) h7
      refine wpS_bind (zaB eb (wpS_bind (zbS O K (hs3.kind hk) hSa (hSb _ mb) sa (by omega) (by omega) fun k hkn hyes hno => ?_)))
      have yes : ∀ (n : Nat) x, n < k → a.toList[i2 + n]? = some x → L vb x = false := fun n x h1 h2 => by simpa using hyes n x h1 h2
      have no : ∀ (n : Nat) x, k ≤ n → n < a.size - i2 → a.toList[i2 + n]? = some x → L vb x = true := fun n x h1 h2 h3 => by simpa using hno n x h1 h2 h3
      have hgt : ∀ z ∈ a.toList.drop (i2 + k), L z vb = false := fun z hz => by
       obtain ⟨n, n1, n2, n3⟩ := zaV hz
       exact O.asym _ _ (no (n - i2) z (by omega) (by simp at n2; omega) (by rw [show i2 + (n - i2) = n by omega]; exact n3))
      dsimp only
      by_cases hk0 : k > 0
      · rw [if_pos hk0]
        have I' : MI L a b (o2 ++ a.extract i2 (i2 + k)) (i2 + k) j2 := by
         have := I2.takeA (k := k) sa fun z hz v hv => by
          obtain ⟨n, n1, n2⟩ := zcg hz
          exact O.ntr v vb z (zbN O sb eb' v hv) (yes n z n1 n2)
         unfold MI
         rw [Array.toList_append, zfJ]
         exact this
        by_cases h9 : i2 + k + 1 = a.size
        · rw [if_pos (by simpa using h9)]
          exact wpS_pure ⟨hs3, .inl ⟨_, rfl, resL I' sb h9 hl⟩⟩
        rw [if_neg (by simpa using h9)]
        by_cases h10 : i2 + k = a.size
        · rw [if_pos (by simpa using h10)]
          exact wpS_pure ⟨hs3, .inl ⟨_, rfl, res2 I' sb h10⟩⟩
        rw [if_neg (by simpa using h10)]
        refine wpS_bind (zaB eb ?_)
        have I3 : MI L a b ((o2 ++ a.extract i2 (i2 + k)).push vb) ((i2 + k)) (j2 + 1) := by
         have := I'.pushB sb eb' hgt
         unfold MI
         rw [Array.toList_push]
         exact this
        by_cases h11 : j2 + 1 = b.size
        · rw [if_pos (by simpa using h11)]
          exact wpS_pure ⟨hs3, .inl ⟨_, rfl, res1 I3 sa h11⟩⟩
        rw [if_neg (by simpa using h11)]
        obtain ⟨va, ea, ea', ma⟩ := zaJ (a := a) (i := (i2 + k)) (by omega)
        refine wpS_bind (zaB ea (wpS_bind (zbS O K (hs3.kind hk) hSb (hSa _ ma) sb (by omega) (by omega) fun k2 hkn2 hyes2 hno2 => ?_)))
        have yes2 : ∀ (i : Nat) x, i < k2 → b.toList[j2 + 1 + i]? = some x → L x va = true := fun i x h1 h2 => by simpa using hyes2 i x h1 h2
        have no2 : ∀ (i : Nat) x, k2 ≤ i → i < b.size - (j2 + 1) → b.toList[j2 + 1 + i]? = some x → L x va = false := fun i x h1 h2 h3 => by simpa using hno2 i x h1 h2 h3
        dsimp only
        by_cases hk2 : k2 > 0
        · rw [if_pos hk2]
          have I4 : MI L a b ((o2 ++ a.extract i2 (i2 + k)).push vb ++ b.extract (j2 + 1) (j2 + 1 + k2)) ((i2 + k)) (j2 + 1 + k2) := by
           have := I3.takeB (k := k2) sb fun z hz v hv => by
            obtain ⟨n, n1, n2⟩ := zcg hz
            exact O.ntr v va z (zbN O sa ea' v hv) (O.asym _ _ (yes2 n z n1 n2))
           unfold MI
           rw [Array.toList_append, zfJ]
           exact this
          by_cases h12 : j2 + 1 + k2 = b.size
          · rw [if_pos (by simpa using h12)]
            exact wpS_pure ⟨hs3, .inl ⟨_, rfl, res1 I4 sa h12⟩⟩
          rw [if_neg (by simpa using h12)]
          refine wpS_bind (zaB ea ?_)
          have I5 : MI L a b (((o2 ++ a.extract i2 (i2 + k)).push vb ++ b.extract (j2 + 1) (j2 + 1 + k2)).push va) ((i2 + k) + 1) (j2 + 1 + k2) := by
           have := I4.pushA sa ea' fun z hz => by
            obtain ⟨n, n1, n2, n3⟩ := zaV hz
            exact no2 (n - (j2 + 1)) z (by omega) (by simp at n2; omega) (by rw [show j2 + 1 + (n - (j2 + 1)) = n by omega]; exact n3)
           unfold MI
           rw [Array.toList_push]
           exact this
          by_cases h13 : (i2 + k) + 1 + 1 = a.size
          · rw [if_pos (by simpa using h13)]
            exact wpS_pure ⟨hs3, .inl ⟨_, rfl, resL I5 sb h13 hl⟩⟩
          rw [if_neg (by simpa using h13)]
          split
          · exact wpS_pure ⟨hs3, .inr ⟨_, _, _, _, _, _, rfl, I5, by omega, by omega, by omega⟩⟩
          · exact wpS_pure ⟨hs3, _, _, _, _, _, _, rfl, I5, by omega, by omega, by omega⟩
        · rw [if_neg hk2]
          have I4 := I3
          refine wpS_bind (zaB ea ?_)
          have I5 : MI L a b (((o2 ++ a.extract i2 (i2 + k)).push vb).push va) ((i2 + k) + 1) (j2 + 1) := by
           have := I4.pushA sa ea' fun z hz => by
            obtain ⟨n, n1, n2, n3⟩ := zaV hz
            exact no2 (n - (j2 + 1)) z (by omega) (by simp at n2; omega) (by rw [show j2 + 1 + (n - (j2 + 1)) = n by omega]; exact n3)
           unfold MI
           rw [Array.toList_push]
           exact this
          by_cases h13 : (i2 + k) + 1 + 1 = a.size
          · rw [if_pos (by simpa using h13)]
            exact wpS_pure ⟨hs3, .inl ⟨_, rfl, resL I5 sb h13 hl⟩⟩
          rw [if_neg (by simpa using h13)]
          split
          · exact wpS_pure ⟨hs3, .inr ⟨_, _, _, _, _, _, rfl, I5, by omega, by omega, by omega⟩⟩
          · exact wpS_pure ⟨hs3, _, _, _, _, _, _, rfl, I5, by omega, by omega, by omega⟩
      · rw [if_neg hk0]
        obtain rfl : k = 0 := by omega
        rw [Nat.add_zero] at hgt
        have I' := I2
        refine wpS_bind (zaB eb ?_)
        have I3 : MI L a b (o2.push vb) (i2) (j2 + 1) := by
         have := I'.pushB sb eb' hgt
         unfold MI
         rw [Array.toList_push]
         exact this
        by_cases h11 : j2 + 1 = b.size
        · rw [if_pos (by simpa using h11)]
          exact wpS_pure ⟨hs3, .inl ⟨_, rfl, res1 I3 sa h11⟩⟩
        rw [if_neg (by simpa using h11)]
        obtain ⟨va, ea, ea', ma⟩ := zaJ (a := a) (i := i2) (by omega)
        refine wpS_bind (zaB ea (wpS_bind (zbS O K (hs3.kind hk) hSb (hSa _ ma) sb (by omega) (by omega) fun k2 hkn2 hyes2 hno2 => ?_)))
        have yes2 : ∀ (i : Nat) x, i < k2 → b.toList[j2 + 1 + i]? = some x → L x va = true := fun i x h1 h2 => by simpa using hyes2 i x h1 h2
        have no2 : ∀ (i : Nat) x, k2 ≤ i → i < b.size - (j2 + 1) → b.toList[j2 + 1 + i]? = some x → L x va = false := fun i x h1 h2 h3 => by simpa using hno2 i x h1 h2 h3
        dsimp only
        by_cases hk2 : k2 > 0
        · rw [if_pos hk2]
          have I4 : MI L a b (o2.push vb ++ b.extract (j2 + 1) (j2 + 1 + k2)) (i2) (j2 + 1 + k2) := by
           have := I3.takeB (k := k2) sb fun z hz v hv => by
            obtain ⟨n, n1, n2⟩ := zcg hz
            exact O.ntr v va z (zbN O sa ea' v hv) (O.asym _ _ (yes2 n z n1 n2))
           unfold MI
           rw [Array.toList_append, zfJ]
           exact this
          by_cases h12 : j2 + 1 + k2 = b.size
          · rw [if_pos (by simpa using h12)]
            exact wpS_pure ⟨hs3, .inl ⟨_, rfl, res1 I4 sa h12⟩⟩
          rw [if_neg (by simpa using h12)]
          refine wpS_bind (zaB ea ?_)
          have I5 : MI L a b ((o2.push vb ++ b.extract (j2 + 1) (j2 + 1 + k2)).push va) (i2 + 1) (j2 + 1 + k2) := by
           have := I4.pushA sa ea' fun z hz => by
            obtain ⟨n, n1, n2, n3⟩ := zaV hz
            exact no2 (n - (j2 + 1)) z (by omega) (by simp at n2; omega) (by rw [show j2 + 1 + (n - (j2 + 1)) = n by omega]; exact n3)
           unfold MI
           rw [Array.toList_push]
           exact this
          by_cases h13 : i2 + 1 + 1 = a.size
          · rw [if_pos (by simpa using h13)]
            exact wpS_pure ⟨hs3, .inl ⟨_, rfl, resL I5 sb h13 hl⟩⟩
          rw [if_neg (by simpa using h13)]
          split
          · exact wpS_pure ⟨hs3, .inr ⟨_, _, _, _, _, _, rfl, I5, by omega, by omega, by omega⟩⟩
          · exact wpS_pure ⟨hs3, _, _, _, _, _, _, rfl, I5, by omega, by omega, by omega⟩
        · rw [if_neg hk2]
          have I4 := I3
          refine wpS_bind (zaB ea ?_)
          have I5 : MI L a b ((o2.push vb).push va) (i2 + 1) (j2 + 1) := by
           have := I4.pushA sa ea' fun z hz => by
            obtain ⟨n, n1, n2, n3⟩ := zaV hz
            exact no2 (n - (j2 + 1)) z (by omega) (by simp at n2; omega) (by rw [show j2 + 1 + (n - (j2 + 1)) = n by omega]; exact n3)
           unfold MI
           rw [Array.toList_push]
           exact this
          by_cases h13 : i2 + 1 + 1 = a.size
          · rw [if_pos (by simpa using h13)]
            exact wpS_pure ⟨hs3, .inl ⟨_, rfl, resL I5 sb h13 hl⟩⟩
          rw [if_neg (by simpa using h13)]
          split
          · exact wpS_pure ⟨hs3, .inr ⟨_, _, _, _, _, _, rfl, I5, by omega, by omega, by omega⟩⟩
          · exact wpS_pure ⟨hs3, _, _, _, _, _, _, rfl, I5, by omega, by omega, by omega⟩
    · rw [if_neg hg]
      refine wpS_bind (zcM hs2 fun st3 hs3 => ?_)
      obtain ⟨vb, eb, eb', mb⟩ := zaJ (a := b) (i := j2) h7
      refine wpS_bind (zaB eb (wpS_bind (zbS O K (hs3.kind hk) hSa (hSb _ mb) sa (by omega) (by omega) fun k hkn hyes hno => ?_)))
      have yes : ∀ (n : Nat) x, n < k → a.toList[i2 + n]? = some x → L vb x = false := fun n x h1 h2 => by simpa using hyes n x h1 h2
      have no : ∀ (n : Nat) x, k ≤ n → n < a.size - i2 → a.toList[i2 + n]? = some x → L vb x = true := fun n x h1 h2 h3 => by simpa using hno n x h1 h2 h3
      have hgt : ∀ z ∈ a.toList.drop (i2 + k), L z vb = false := fun z hz => by
       obtain ⟨n, n1, n2, n3⟩ := zaV hz
       exact O.asym _ _ (no (n - i2) z (by omega) (by simp at n2; omega) (by rw [show i2 + (n - i2) = n by omega]; exact n3))
      dsimp only
      by_cases hk0 : k > 0
      · rw [if_pos hk0]
        have I' : MI L a b (o2 ++ a.extract i2 (i2 + k)) (i2 + k) j2 := by
         have := I2.takeA (k := k) sa fun z hz v hv => by
          obtain ⟨n, n1, n2⟩ := zcg hz
          exact O.ntr v vb z (zbN O sb eb' v hv) (yes n z n1 n2)
         unfold MI
         rw [Array.toList_append, zfJ]
         exact this
        by_cases h9 : i2 + k + 1 = a.size
        · rw [if_pos (by simpa using h9)]
          exact wpS_pure ⟨hs3, .inl ⟨_, rfl, resL I' sb h9 hl⟩⟩
        rw [if_neg (by simpa using h9)]
        by_cases h10 : i2 + k = a.size
        · rw [if_pos (by simpa using h10)]
          exact wpS_pure ⟨hs3, .inl ⟨_, rfl, res2 I' sb h10⟩⟩
        rw [if_neg (by simpa using h10)]
        refine wpS_bind (zaB eb ?_)
        have I3 : MI L a b ((o2 ++ a.extract i2 (i2 + k)).push vb) ((i2 + k)) (j2 + 1) := by
         have := I'.pushB sb eb' hgt
         unfold MI
         rw [Array.toList_push]
         exact this
        by_cases h11 : j2 + 1 = b.size
        · rw [if_pos (by simpa using h11)]
          exact wpS_pure ⟨hs3, .inl ⟨_, rfl, res1 I3 sa h11⟩⟩
        rw [if_neg (by simpa using h11)]
        obtain ⟨va, ea, ea', ma⟩ := zaJ (a := a) (i := (i2 + k)) (by omega)
        refine wpS_bind (zaB ea (wpS_bind (zbS O K (hs3.kind hk) hSb (hSa _ ma) sb (by omega) (by omega) fun k2 hkn2 hyes2 hno2 => ?_)))
        have yes2 : ∀ (i : Nat) x, i < k2 → b.toList[j2 + 1 + i]? = some x → L x va = true := fun i x h1 h2 => by simpa using hyes2 i x h1 h2
        have no2 : ∀ (i : Nat) x, k2 ≤ i → i < b.size - (j2 + 1) → b.toList[j2 + 1 + i]? = some x → L x va = false := fun i x h1 h2 h3 => by simpa using hno2 i x h1 h2 h3
        dsimp only
        by_cases hk2 : k2 > 0
        · rw [if_pos hk2]
          have I4 : MI L a b ((o2 ++ a.extract i2 (i2 + k)).push vb ++ b.extract (j2 + 1) (j2 + 1 + k2)) ((i2 + k)) (j2 + 1 + k2) := by
           have := I3.takeB (k := k2) sb fun z hz v hv => by
            obtain ⟨n, n1, n2⟩ := zcg hz
            exact O.ntr v va z (zbN O sa ea' v hv) (O.asym _ _ (yes2 n z n1 n2))
           unfold MI
           rw [Array.toList_append, zfJ]
           exact this
          by_cases h12 : j2 + 1 + k2 = b.size
          · rw [if_pos (by simpa using h12)]
            exact wpS_pure ⟨hs3, .inl ⟨_, rfl, res1 I4 sa h12⟩⟩
          rw [if_neg (by simpa using h12)]
          refine wpS_bind (zaB ea ?_)
          have I5 : MI L a b (((o2 ++ a.extract i2 (i2 + k)).push vb ++ b.extract (j2 + 1) (j2 + 1 + k2)).push va) ((i2 + k) + 1) (j2 + 1 + k2) := by
           have := I4.pushA sa ea' fun z hz => by
            obtain ⟨n, n1, n2, n3⟩ := zaV hz
            exact no2 (n - (j2 + 1)) z (by omega) (by simp at n2; omega) (by rw [show j2 + 1 + (n - (j2 + 1)) = n by omega]; exact n3)
           unfold MI
           rw [Array.toList_push]
           exact this
          by_cases h13 : (i2 + k) + 1 + 1 = a.size
          · rw [if_pos (by simpa using h13)]
            exact wpS_pure ⟨hs3, .inl ⟨_, rfl, resL I5 sb h13 hl⟩⟩
          rw [if_neg (by simpa using h13)]
          split
          · exact wpS_pure ⟨hs3, .inr ⟨_, _, _, _, _, _, rfl, I5, by omega, by omega, by omega⟩⟩
          · exact wpS_pure ⟨hs3, _, _, _, _, _, _, rfl, I5, by omega, by omega, by omega⟩
        · rw [if_neg hk2]
          have I4 := I3
          refine wpS_bind (zaB ea ?_)
          have I5 : MI L a b (((o2 ++ a.extract i2 (i2 + k)).push vb).push va) ((i2 + k) + 1) (j2 + 1) := by
           have := I4.pushA sa ea' fun z hz => by
            obtain ⟨n, n1, n2, n3⟩ := zaV hz
            exact no2 (n - (j2 + 1)) z (by omega) (by simp at n2; omega) (by rw [show j2 + 1 + (n - (j2 + 1)) = n by omega]; exact n3)
           unfold MI
           rw [Array.toList_push]
           exact this
          by_cases h13 : (i2 + k) + 1 + 1 = a.size
          · rw [if_pos (by simpa using h13)]
            exact wpS_pure ⟨hs3, .inl ⟨_, rfl, resL I5 sb h13 hl⟩⟩
          rw [if_neg (by simpa using h13)]
          split
          · exact wpS_pure ⟨hs3, .inr ⟨_, _, _, _, _, _, rfl, I5, by omega, by omega, by omega⟩⟩
          · exact wpS_pure ⟨hs3, _, _, _, _, _, _, rfl, I5, by omega, by omega, by omega⟩
      · rw [if_neg hk0]
        obtain rfl : k = 0 := by omega
        rw [Nat.add_zero] at hgt
        have I' := I2
        refine wpS_bind (zaB eb ?_)
        have I3 : MI L a b (o2.push vb) (i2) (j2 + 1) := by
         have := I'.pushB sb eb' hgt
         unfold MI
         rw [Array.toList_push]
         exact this
        by_cases h11 : j2 + 1 = b.size
        · rw [if_pos (by simpa using h11)]
          exact wpS_pure ⟨hs3, .inl ⟨_, rfl, res1 I3 sa h11⟩⟩
        rw [if_neg (by simpa using h11)]
        obtain ⟨va, ea, ea', ma⟩ := zaJ (a := a) (i := i2) (by omega)
        refine wpS_bind (zaB ea (wpS_bind (zbS O K (hs3.kind hk) hSb (hSa _ ma) sb (by omega) (by omega) fun k2 hkn2 hyes2 hno2 => ?_)))
        have yes2 : ∀ (i : Nat) x, i < k2 → b.toList[j2 + 1 + i]? = some x → L x va = true := fun i x h1 h2 => by simpa using hyes2 i x h1 h2
        have no2 : ∀ (i : Nat) x, k2 ≤ i → i < b.size - (j2 + 1) → b.toList[j2 + 1 + i]? = some x → L x va = false := fun i x h1 h2 h3 => by simpa using hno2 i x h1 h2 h3
        dsimp only
        by_cases hk2 : k2 > 0
        · rw [if_pos hk2]
          have I4 : MI L a b (o2.push vb ++ b.extract (j2 + 1) (j2 + 1 + k2)) (i2) (j2 + 1 + k2) := by
           have := I3.takeB (k := k2) sb fun z hz v hv => by
            obtain ⟨n, n1, n2⟩ := zcg hz
            exact O.ntr v va z (zbN O sa ea' v hv) (O.asym _ _ (yes2 n z n1 n2))
           unfold MI
           rw [Array.toList_append, zfJ]
           exact this
          by_cases h12 : j2 + 1 + k2 = b.size
          · rw [if_pos (by simpa using h12)]
            exact wpS_pure ⟨hs3, .inl ⟨_, rfl, res1 I4 sa h12⟩⟩
          rw [if_neg (by simpa using h12)]
          refine wpS_bind (zaB ea ?_)
          have I5 : MI L a b ((o2.push vb ++ b.extract (j2 + 1) (j2 + 1 + k2)).push va) (i2 + 1) (j2 + 1 + k2) := by
           have := I4.pushA sa ea' fun z hz => by
            obtain ⟨n, n1, n2, n3⟩ := zaV hz
            exact no2 (n - (j2 + 1)) z (by omega) (by simp at n2; omega) (by rw [show j2 + 1 + (n - (j2 + 1)) = n by omega]; exact n3)
           unfold MI
           rw [Array.toList_push]
           exact this
          by_cases h13 : i2 + 1 + 1 = a.size
          · rw [if_pos (by simpa using h13)]
            exact wpS_pure ⟨hs3, .inl ⟨_, rfl, resL I5 sb h13 hl⟩⟩
          rw [if_neg (by simpa using h13)]
          split
          · exact wpS_pure ⟨hs3, .inr ⟨_, _, _, _, _, _, rfl, I5, by omega, by omega, by omega⟩⟩
          · exact wpS_pure ⟨hs3, _, _, _, _, _, _, rfl, I5, by omega, by omega, by omega⟩
        · rw [if_neg hk2]
          have I4 := I3
          refine wpS_bind (zaB ea ?_)
          have I5 : MI L a b ((o2.push vb).push va) (i2 + 1) (j2 + 1) := by
           have := I4.pushA sa ea' fun z hz => by
            obtain ⟨n, n1, n2, n3⟩ := zaV hz
            exact no2 (n - (j2 + 1)) z (by omega) (by simp at n2; omega) (by rw [show j2 + 1 + (n - (j2 + 1)) = n by omega]; exact n3)
           unfold MI
           rw [Array.toList_push]
           exact this
          by_cases h13 : i2 + 1 + 1 = a.size
          · rw [if_pos (by simpa using h13)]
            exact wpS_pure ⟨hs3, .inl ⟨_, rfl, resL I5 sb h13 hl⟩⟩
          rw [if_neg (by simpa using h13)]
          split
          · exact wpS_pure ⟨hs3, .inr ⟨_, _, _, _, _, _, rfl, I5, by omega, by omega, by omega⟩⟩
          · exact wpS_pure ⟨hs3, _, _, _, _, _, _, rfl, I5, by omega, by omega, by omega⟩
end
section
variable {α : Type} {L : α → α → Bool}
structure HInv (L : α → α → Bool) (a b out : List α) (na nb : Nat) : Prop where
 perm : (a.take na ++ b.take nb ++ out.reverse).Perm (a ++ b)
 srt : SrtL L out.reverse
 le : ∀ x ∈ out, ∀ y ∈ a.take na ++ b.take nb, L x y = false
variable {a b out : List α} {na nb m : Nat}
theorem HInv.takeA (I : HInv L a b out na nb) (sa : SrtL L a) (hm : m ≤ na) (h : ∀ x ∈ (a.take na).drop m, ∀ y ∈ b.take nb, L x y = false) : HInv L a b (out ++ ((a.take na).drop m).reverse) m nb := by
 have e : a.take na = a.take m ++ (a.take na).drop m := by
  have := List.take_append_drop m (a.take na)
  rw [List.take_take, Nat.min_eq_left hm] at this
  exact this.symm
 have sd : SrtL L (a.take na) := sa.sublist (List.take_sublist _ _)
 refine ⟨?_, ?_, ?_⟩
 · refine List.Perm.trans ?_ I.perm
   rw [List.reverse_append, List.reverse_reverse]
   conv => rhs; rw [e]
   simp only [List.append_assoc]
   refine List.Perm.append_left _ ?_
   rw [← List.append_assoc, ← List.append_assoc]
   exact List.Perm.append_right _ List.perm_append_comm
 · rw [List.reverse_append, List.reverse_reverse]
   refine zaS (sd.sublist (List.drop_sublist _ _)) I.srt fun x hx y hy => ?_
   exact I.le y (List.mem_reverse.mp hy) x (List.mem_append_left _ (List.mem_of_mem_drop hx))
 · intro x hx y hy
   rcases List.mem_append.mp hx with hx | hx
   · refine I.le x hx y ?_
     rcases List.mem_append.mp hy with hy | hy
     · rw [e]; exact List.mem_append_left _ (List.mem_append_left _ hy)
     · exact List.mem_append_right _ hy
   · have hx := List.mem_reverse.mp hx
     rcases List.mem_append.mp hy with hy | hy
     · rw [e] at sd
       exact (List.pairwise_append.mp sd).2.2 y hy x hx
     · exact h x hx y hy
theorem HInv.takeB (I : HInv L a b out na nb) (sb : SrtL L b) (hm : m ≤ nb) (h : ∀ x ∈ (b.take nb).drop m, ∀ y ∈ a.take na, L x y = false) : HInv L a b (out ++ ((b.take nb).drop m).reverse) na m := by
 have e : b.take nb = b.take m ++ (b.take nb).drop m := by
  have := List.take_append_drop m (b.take nb)
  rw [List.take_take, Nat.min_eq_left hm] at this
  exact this.symm
 have sd : SrtL L (b.take nb) := sb.sublist (List.take_sublist _ _)
 refine ⟨?_, ?_, ?_⟩
 · refine List.Perm.trans ?_ I.perm
   rw [List.reverse_append, List.reverse_reverse]
   conv => rhs; rw [e]
   simp only [List.append_assoc]
   exact List.Perm.refl _
 · rw [List.reverse_append, List.reverse_reverse]
   refine zaS (sd.sublist (List.drop_sublist _ _)) I.srt fun x hx y hy => ?_
   exact I.le y (List.mem_reverse.mp hy) x (List.mem_append_right _ (List.mem_of_mem_drop hx))
 · intro x hx y hy
   rcases List.mem_append.mp hx with hx | hx
   · refine I.le x hx y ?_
     rcases List.mem_append.mp hy with hy | hy
     · exact List.mem_append_left _ hy
     · rw [e]; exact List.mem_append_right _ (List.mem_append_left _ hy)
   · have hx := List.mem_reverse.mp hx
     rcases List.mem_append.mp hy with hy | hy
     · exact h x hx y hy
     · rw [e] at sd
       exact (List.pairwise_append.mp sd).2.2 y hy x hx
theorem zct {l : List α} {n : Nat} {x : α} (h : l[n]? = some x) : (l.take (n + 1)).drop n = [x] := by
 obtain ⟨hi, e⟩ := List.getElem?_eq_some_iff.mp h
 rw [List.drop_take, Nat.add_sub_cancel_left]
 exact zbP h
theorem HInv.pushA (I : HInv L a b out (m + 1) nb) (sa : SrtL L a) {x : α} (hx : a[m]? = some x) (h : ∀ y ∈ b.take nb, L x y = false) : HInv L a b (out ++ [x]) m nb := by
 have := I.takeA (m := m) sa (by omega) (by rw [zct hx]; intro z hz; rw [List.mem_singleton.mp hz]; exact h)
 rw [zct hx] at this
 exact this
theorem HInv.pushB (I : HInv L a b out na (m + 1)) (sb : SrtL L b) {x : α} (hx : b[m]? = some x) (h : ∀ y ∈ a.take na, L x y = false) : HInv L a b (out ++ [x]) na m := by
 have := I.takeB (m := m) sb (by omega) (by rw [zct hx]; intro z hz; rw [List.mem_singleton.mp hz]; exact h)
 rw [zct hx] at this
 exact this
theorem HInv.done (I : HInv L a b out na nb) (sa : SrtL L a) (sb : SrtL L b) (h : na = 0 ∨ nb = 0) : (a.take na ++ b.take nb ++ out.reverse).Perm (a ++ b) ∧ SrtL L (a.take na ++ b.take nb ++ out.reverse) := by
 refine ⟨I.perm, zaS ?_ I.srt fun x hx y hy => I.le y (List.mem_reverse.mp hy) x hx⟩
 rcases h with rfl | rfl
 · rw [List.take_zero, List.nil_append]; exact sb.sublist (List.take_sublist _ _)
 · rw [List.take_zero, List.append_nil]; exact sa.sublist (List.take_sublist _ _)
theorem HInv.first (I : HInv L a b out na nb) (sa : SrtL L a) {z : α} (hz : b.take nb = [z]) (h : ∀ y ∈ a, L y z = false) : (b.take nb ++ a.take na ++ out.reverse).Perm (a ++ b) ∧ SrtL L (b.take nb ++ a.take na ++ out.reverse) := by
 refine ⟨(List.Perm.append_right _ List.perm_append_comm).trans I.perm, ?_⟩
 refine zaS (zaS (by rw [hz]; simp) (sa.sublist (List.take_sublist _ _)) fun x hx y hy => ?_) I.srt fun x hx y hy => I.le y (List.mem_reverse.mp hy) x ?_
 · rw [hz] at hx
   rw [List.mem_singleton.mp hx]
   exact h y (List.mem_of_mem_take hy)
 · rcases List.mem_append.mp hx with hx | hx
   · exact List.mem_append_right _ hx
   · exact List.mem_append_left _ hx
end
def zeb : Array Keyed → Array Keyed → StateT SortSt Sem (Array Keyed) := sortPriv% PySem.Builtin.mergeHi
theorem zfC (a b : Array Keyed) : zeb a b = (do
 rule "list.sort.merge-hi"
 let total := a.size + b.size
 let done (out : Array Keyed) (na nb : Nat) := a.extract 0 na ++ b.extract 0 nb ++ out.reverse
 let firstOfB (out : Array Keyed) (na nb : Nat) := b.extract 0 nb ++ a.extract 0 na ++ out.reverse
 let mut na := a.size - 1
 let mut nb := b.size
 let mut out : Array Keyed := #[← elem' a na]
 if na == 0 then return done out na nb
 if nb == 1 then return firstOfB out na nb
 let mut minGallop := gallopOf (← get)
 for _ in [0:total] do
  let mut acount := 0
  let mut bcount := 0
  for _ in [0:total] do
   let some aWins ← lt' (← elem' b (nb - 1)) (← elem' a (na - 1)) | return done out na nb
   if aWins then
    na := na - 1; out := out.push (← elem' a na); acount := acount + 1; bcount := 0
    if na == 0 then return done out na nb
    if acount ≥ minGallop then break
   else
    nb := nb - 1; out := out.push (← elem' b nb); bcount := bcount + 1; acount := 0
    if nb == 1 then return firstOfB out na nb
    if bcount ≥ minGallop then break
  rule "list.sort.gallop"
  minGallop := minGallop + 1
  for _ in [0:total] do
   if minGallop > 1 then minGallop := minGallop - 1
   zaL minGallop
   let some at_ ← zbv false (← elem' b (nb - 1)) a 0 na (na - 1) | return done out na nb
   let k := na - at_
   acount := k
   if k > 0 then
    out := out ++ (a.extract at_ na).reverse; na := at_
    if na == 0 then return done out na nb
   nb := nb - 1; out := out.push (← elem' b nb)
   if nb == 1 then return firstOfB out na nb
   let some at_ ← zbv true (← elem' a (na - 1)) b 0 nb (nb - 1) | return done out na nb
   let k := nb - at_
   bcount := k
   if k > 0 then
    out := out ++ (b.extract at_ nb).reverse; nb := at_
    if nb == 1 then return firstOfB out na nb
    if nb == 0 then return done out na nb
   na := na - 1; out := out.push (← elem' a na)
   if na == 0 then return done out na nb
   if acount < 7 && bcount < 7 then break
  minGallop := minGallop + 1
  zaL minGallop
 unsupported "internal:list.sort.merge-bound") := rfl
section
variable {prog : Program} {w : World} {A : Around} {E : Value → Shared → Prop} {s : Shared} {κ : SortKind} {L : Keyed → Keyed → Bool} {S : Keyed → Prop}
variable {a b out : Array Keyed} {na nb : Nat}
abbrev HI (L : Keyed → Keyed → Bool) (a b out : Array Keyed) (na nb : Nat) : Prop := HInv L a.toList b.toList out.toList na nb
theorem zit (a : Array Keyed) (k : Nat) : (a.extract 0 k).toList = a.toList.take k := by
 rw [Array.toList_extract, List.extract_eq_drop_take, List.drop_zero, Nat.sub_zero]
theorem zfI (a : Array Keyed) (m n : Nat) : (a.extract m n).toList = (a.toList.take n).drop m := by
 rw [Array.toList_extract, List.extract_eq_drop_take, List.drop_take]
theorem resD (I : HI L a b out na nb) (sa : SrtL L a.toList) (sb : SrtL L b.toList) (h : na = 0 ∨ nb = 0) : Res L a b (a.extract 0 na ++ b.extract 0 nb ++ out.reverse) := by
 unfold Res
 rw [Array.toList_append, Array.toList_append, zit, zit, Array.toList_reverse]
 exact I.done sa sb h
theorem resF (I : HI L a b out na nb) (sa : SrtL L a.toList) (h : nb = 1) (hb : 1 ≤ b.size) (hf : ∀ y, b[0]? = some y → ∀ x ∈ a.toList, L x y = false) : Res L a b (b.extract 0 nb ++ a.extract 0 na ++ out.reverse) := by
 unfold Res
 rw [Array.toList_append, Array.toList_append, zit, zit, Array.toList_reverse]
 obtain ⟨x, e1, e2, _⟩ := zaJ (a := b) (i := 0) (by omega)
 refine I.first sa (z := x) ?_ (hf x e1)
 subst h
 have := zbP e2
 rw [List.drop_zero] at this
 exact this
theorem zb1 (O : LOrd L) {l : List Keyed} (sl : SrtL L l) {m : Nat} {x : Keyed} (h : l[m]? = some x) : ∀ z ∈ l.take (m + 1), L x z = false := by
 intro z hz
 obtain ⟨hi, e⟩ := List.getElem?_eq_some_iff.mp h
 rw [zaE h] at hz
 rcases List.mem_append.mp hz with hz | hz
 · obtain ⟨j, hj, ej⟩ := List.mem_iff_getElem.mp hz
   rw [List.length_take] at hj
   rw [List.getElem_take] at ej
   have := List.pairwise_iff_getElem.mp sl j m (by omega) hi (by omega)
   rw [e, ej] at this
   exact this
 · rw [List.mem_singleton.mp hz]; exact O.irr _
theorem zcA {l : List Keyed} {m n : Nat} {x : Keyed} (h : x ∈ (l.take n).drop m) : ∃ j, m ≤ j ∧ j < n ∧ l[j]? = some x := by
 obtain ⟨j, h1, h2, h3⟩ := zaV h
 rw [List.length_take] at h2
 rw [List.getElem?_take] at h3
 split at h3
 · exact ⟨j, h1, by omega, h3⟩
 · cases h3
theorem zbR {l : List Keyed} {n : Nat} {x : Keyed} (h : x ∈ l.take n) : ∃ j, j < n ∧ l[j]? = some x := by
 obtain ⟨j, _, h2, h3⟩ := zcA (m := 0) (by rw [List.drop_zero]; exact h)
 exact ⟨j, h2, h3⟩
theorem zgz (O : LOrd L) (K : Asks prog w A E s κ L S) {st : SortSt} {Q : Array Keyed → SortSt → Prop} (hk : kindOf st = κ) (hSa : ∀ x ∈ a.toList, S x) (hSb : ∀ x ∈ b.toList, S x) (sa : SrtL L a.toList) (sb : SrtL L b.toList) (ha : 1 ≤ a.size) (hb : 1 ≤ b.size)
 (hf : ∀ y, b[0]? = some y → ∀ x ∈ a.toList, L x y = false) (hl : ∀ z, a[a.size - 1]? = some z → ∀ y ∈ b.toList, L z y = false) (q : ∀ o st', StG st st' → Res L a b o → Q o st') : wpS (model prog w) A E s (zeb a b) Q st := by
 rw [zfC]
 dsimp only
 refine wpS_bind (zco ?_)
 obtain ⟨n0, hn0⟩ : ∃ n0, a.size = n0 + 1 := ⟨a.size - 1, by omega⟩
 have hn1 : a.size - 1 = n0 := by omega
 rw [hn1] at hl ⊢
 obtain ⟨z0, e0, e0', m0⟩ := zaJ (a := a) (i := n0) (by omega)
 refine wpS_bind (zaB e0 ?_)
 have I0 : HI L a b #[z0] n0 b.size := by
  have z : HI L a b #[] (n0 + 1) b.size := ⟨by rw [List.take_of_length_le (by simp; omega), List.take_of_length_le (by simp)]; simp, by simp, by simp⟩
  exact z.pushA sa e0' (fun y hy => hl z0 e0 y (List.mem_of_mem_take hy))
 by_cases h1 : n0 = 0
 · rw [if_pos (by simpa using h1)]
   exact wpS_pure (q _ _ ⟨_, rfl⟩ (resD I0 sa sb (.inl h1)))
 rw [if_neg (by simpa using h1)]
 by_cases h2 : b.size = 1
 · rw [if_pos (by simpa using h2)]
   exact wpS_pure (q _ _ ⟨_, rfl⟩ (resF I0 sa h2 hb hf))
 rw [if_neg (by simpa using h2)]
 refine wpS_bind (wpS_get ?_)
 refine wpS_bind (wpS_mono (wpS_forRange
  (I := fun x c st' => StG st st' ∧ ∃ o i j g, c = (none, i, j, o, g) ∧ HI L a b o i j ∧ 1 ≤ i ∧ 2 ≤ j ∧ i ≤ a.size ∧ j ≤ b.size ∧ x + i + j + 1 ≤ a.size + b.size)
  (Q := fun c st' => StG st st' ∧ ∃ o, c.1 = some o ∧ Res L a b o) ?step ?fin ⟨⟨_, rfl⟩, _, _, _, _, rfl, I0, by omega, by omega, by omega, by omega, by omega⟩) ?post)
 case fin =>
  rintro c st' ⟨_, o, i, j, g, rfl, I, h3, h4, h5, h6, h7⟩
  omega
 case post =>
  rintro c st' ⟨hst, o, e, r⟩
  rw [e]
  exact wpS_pure (q _ _ hst r)
 case step =>
  rintro x c st1 _ hx ⟨hs1, o1, i1, j1, g1, rfl, I1, a1, b1, a1', b1', c1⟩
  dsimp only
  refine wpS_bind (wpS_mono (wpS_forRange
   (I := fun y c st' => st' = st1 ∧ ∃ o i j p r, c = (none, i, j, o, p, r) ∧ HI L a b o i j ∧ 1 ≤ i ∧ 2 ≤ j ∧ i ≤ a.size ∧ j ≤ b.size ∧ y + i + j ≤ i1 + j1)
   (Q := fun c st' => st' = st1 ∧ ((∃ o, c.1 = some o ∧ Res L a b o) ∨ ∃ o i j p r, c = (none, i, j, o, p, r) ∧ HI L a b o i j ∧ 1 ≤ i ∧ 2 ≤ j ∧ i ≤ a.size ∧ j ≤ b.size ∧ i + j + 1 ≤ i1 + j1)) ?step1 ?fin1 ⟨rfl, _, _, _, _, _, rfl, I1, a1, b1, a1', b1', by omega⟩) ?post1)
  case fin1 =>
   rintro c st' ⟨_, o, i, j, p, r, rfl, I, h3, h4, h5, h6, h7⟩
   omega
  case step1 =>
   rintro y c st' _ hy ⟨rfl, o, i, j, p, r, rfl, I, h3, h4, h3', h4', h5⟩
   obtain ⟨i', rfl⟩ : ∃ i', i = i' + 1 := ⟨i - 1, by omega⟩
   obtain ⟨j', rfl⟩ : ∃ j', j = j' + 1 := ⟨j - 1, by omega⟩
   dsimp only
   simp only [Nat.add_sub_cancel]
   obtain ⟨vb, eb, eb', mb⟩ := zaJ (a := b) (i := j') (by omega)
   obtain ⟨va, ea, ea', ma⟩ := zaJ (a := a) (i := i') (by omega)
   refine wpS_bind (zaB eb (wpS_bind (zaB ea (wpS_bind (K vb va _ _ (hSb _ mb) (hSa _ ma) (hs1.kind hk) ?_)))))
   dsimp only
   cases hw : L vb va with
   | true =>
    rw [if_pos rfl]
    refine wpS_bind (zaB ea ?_)
    have I' : HI L a b (o.push va) i' (j' + 1) := by
     have := I.pushA sa ea' fun z hz => O.ntr va vb z (O.asym _ _ hw) (zb1 O sb eb' z hz)
     unfold HI
     rw [Array.toList_push]
     exact this
    by_cases h6 : i' = 0
    · rw [if_pos (by simpa using h6)]
      exact wpS_pure ⟨rfl, .inl ⟨_, rfl, resD I' sa sb (.inl h6)⟩⟩
    rw [if_neg (by simpa using h6)]
    by_cases h7 : p + 1 ≥ g1
    · rw [if_pos h7]
      exact wpS_pure ⟨rfl, .inr ⟨_, _, _, _, _, rfl, I', by omega, h4, by omega, h4', by omega⟩⟩
    · rw [if_neg h7]
      exact wpS_pure ⟨rfl, _, _, _, _, _, rfl, I', by omega, h4, by omega, h4', by omega⟩
   | false =>
    rw [if_neg (by simp)]
    refine wpS_bind (zaB eb ?_)
    have I' : HI L a b (o.push vb) (i' + 1) j' := by
     have := I.pushB sb eb' fun z hz => O.ntr vb va z hw (zb1 O sa ea' z hz)
     unfold HI
     rw [Array.toList_push]
     exact this
    by_cases h6 : j' = 1
    · rw [if_pos (by simpa using h6)]
      exact wpS_pure ⟨rfl, .inl ⟨_, rfl, resF I' sa h6 hb hf⟩⟩
    rw [if_neg (by simpa using h6)]
    by_cases h7 : r + 1 ≥ g1
    · rw [if_pos h7]
      exact wpS_pure ⟨rfl, .inr ⟨_, _, _, _, _, rfl, I', h3, by omega, h3', by omega, by omega⟩⟩
    · rw [if_neg h7]
      exact wpS_pure ⟨rfl, _, _, _, _, _, rfl, I', h3, by omega, h3', by omega, by omega⟩
  case post1 =>
   rintro c st' ⟨rfl, (⟨o, e, r⟩ | ⟨o, i, j, p, r, rfl, I, h3, h4, h3', h4', h5⟩)⟩
   · rw [e]
     exact wpS_pure ⟨hs1, _, rfl, r⟩
   dsimp only
   refine wpS_bind (zco ?_)
   refine wpS_bind (wpS_mono (wpS_forRange
    (I := fun y c st' => StG st st' ∧ ∃ o' i' j' g' p' r', c = (none, i', j', o', g', p', r') ∧ HI L a b o' i' j' ∧ 1 ≤ i' ∧ 2 ≤ j' ∧ i' ≤ a.size ∧ j' ≤ b.size ∧ y + i' + j' ≤ i + j)
    (Q := fun c st' => StG st st' ∧ ((∃ o', c.1 = some o' ∧ Res L a b o') ∨ ∃ o' i' j' g' p' r', c = (none, i', j', o', g', p', r') ∧ HI L a b o' i' j' ∧ 1 ≤ i' ∧ 2 ≤ j' ∧ i' ≤ a.size ∧ j' ≤ b.size ∧ i' + j' ≤ i + j)) ?step2 ?fin2 ⟨hs1, _, _, _, _, _, _, rfl, I, h3, h4, h3', h4', by omega⟩) ?post2)
   case fin2 =>
    rintro c st' ⟨_, o', i', j', g', p', r', rfl, I', h6, h7, h8, h9, h10⟩
    omega
   case post2 =>
    rintro c st' ⟨hs2, (⟨o', e, r'⟩ | ⟨o', i', j', g', p', r', rfl, I', h6, h7, h8, h9, h10⟩)⟩
    · rw [e]
      exact wpS_pure ⟨hs2, _, rfl, r'⟩
    dsimp only
    refine wpS_bind (zcM hs2 fun st3 hs3 => ?_)
    exact wpS_pure ⟨hs3, _, _, _, _, rfl, I', h6, h7, h8, h9, by omega⟩
   case step2 =>
    rintro y c st' _ hy ⟨hs2, o2, i2, j2, g2, p2, r2, rfl, I2, h6, h7, h6', h7', h8⟩
    obtain ⟨i', rfl⟩ : ∃ i', i2 = i' + 1 := ⟨i2 - 1, by omega⟩
    obtain ⟨j', rfl⟩ : ∃ j', j2 = j' + 1 := ⟨j2 - 1, by omega⟩
    dsimp only
    simp only [Nat.add_sub_cancel]
    by_cases hg : g2 > 1
    · rw [if_pos hg]
      refine wpS_bind (zcM hs2 fun st3 hs3 => ?_)
      obtain ⟨vb, eb, eb', mb⟩ := zaJ (a := b) (i := j') (by omega)
      refine wpS_bind (zaB eb (wpS_bind (zbS O K (hs3.kind hk) hSa (hSb _ mb) sa (by omega) (by omega) fun k hkn hyes hno => ?_)))
      have yes : ∀ (n : Nat) x, n < k → a.toList[n]? = some x → L vb x = false := fun n x h1 h2 => by simpa using hyes n x h1 (by simpa using h2)
      have no : ∀ (n : Nat) x, k ≤ n → n < i' + 1 → a.toList[n]? = some x → L vb x = true := fun n x h1 h2 h3 => by simpa using hno n x h1 h2 (by simpa using h3)
      have hle : ∀ z ∈ a.toList.take k, L vb z = false := fun z hz => by
       obtain ⟨n, n1, n2⟩ := zbR hz
       exact yes n z n1 n2
      dsimp only
      by_cases hk0 : i' + 1 - k > 0
      · rw [if_pos hk0]
        have I' : HI L a b (o2 ++ (a.extract k (i' + 1)).reverse) k (j' + 1) := by
         have := I2.takeA (m := k) sa hkn fun z hz v hv => by
          obtain ⟨n, n1, n2, n3⟩ := zcA hz
          exact O.ntr z vb v (O.asym _ _ (no n z n1 n2 n3)) (zb1 O sb eb' v hv)
         unfold HI
         rw [Array.toList_append, Array.toList_reverse, zfI]
         exact this
        by_cases h9 : k = 0
        · rw [if_pos (by simpa using h9)]
          exact wpS_pure ⟨hs3, .inl ⟨_, rfl, resD I' sa sb (.inl h9)⟩⟩
        rw [if_neg (by simpa using h9)]
        obtain ⟨ia', rfl⟩ : ∃ m, k = m + 1 := ⟨k - 1, by omega⟩
        simp only [Nat.add_sub_cancel]
        refine wpS_bind (zaB eb ?_)
        have I3 : HI L a b ((o2 ++ (a.extract (ia' + 1) (i' + 1)).reverse).push vb) (ia' + 1) j' := by
         have := I'.pushB sb eb' hle
         unfold HI
         rw [Array.toList_push]
         exact this
        by_cases h11 : j' = 1
        · rw [if_pos (by simpa using h11)]
          exact wpS_pure ⟨hs3, .inl ⟨_, rfl, resF I3 sa h11 hb hf⟩⟩
        rw [if_neg (by simpa using h11)]
        obtain ⟨va, ea, ea', ma⟩ := zaJ (a := a) (i := ia') (by omega)
        refine wpS_bind (zaB ea (wpS_bind (zbS O K (hs3.kind hk) hSb (hSa _ ma) sb (by omega) (by omega) fun k2 hkn2 hyes2 hno2 => ?_)))
        have yes2 : ∀ (n : Nat) x, n < k2 → b.toList[n]? = some x → L x va = true := fun n x h1 h2 => by simpa using hyes2 n x h1 (by simpa using h2)
        have no2 : ∀ (n : Nat) x, k2 ≤ n → n < j' → b.toList[n]? = some x → L x va = false := fun n x h1 h2 h3 => by simpa using hno2 n x h1 h2 (by simpa using h3)
        dsimp only
        by_cases hk2 : j' - k2 > 0
        · rw [if_pos hk2]
          have I4 : HI L a b ((o2 ++ (a.extract (ia' + 1) (i' + 1)).reverse).push vb ++ (b.extract k2 j').reverse) (ia' + 1) k2 := by
           have := I3.takeB (m := k2) sb hkn2 fun z hz v hv => by
            obtain ⟨n, n1, n2, n3⟩ := zcA hz
            exact O.ntr z va v (no2 n z n1 n2 n3) (zb1 O sa ea' v hv)
           unfold HI
           rw [Array.toList_append, Array.toList_reverse, zfI]
           exact this
          by_cases h12 : k2 = 1
          · rw [if_pos (by simpa using h12)]
            exact wpS_pure ⟨hs3, .inl ⟨_, rfl, resF I4 sa h12 hb hf⟩⟩
          rw [if_neg (by simpa using h12)]
          by_cases h14 : k2 = 0
          · rw [if_pos (by simpa using h14)]
            exact wpS_pure ⟨hs3, .inl ⟨_, rfl, resD I4 sa sb (.inr h14)⟩⟩
          rw [if_neg (by simpa using h14)]
          refine wpS_bind (zaB ea ?_)
          have I5 : HI L a b (((o2 ++ (a.extract (ia' + 1) (i' + 1)).reverse).push vb ++ (b.extract k2 j').reverse).push va) ia' (k2) := by
           have := I4.pushA sa ea' fun z hz => by
            obtain ⟨n, n1, n2⟩ := zbR hz
            exact O.asym _ _ (yes2 n z (by omega) n2)
           unfold HI
           rw [Array.toList_push]
           exact this
          by_cases h13 : ia' = 0
          · rw [if_pos (by simpa using h13)]
            exact wpS_pure ⟨hs3, .inl ⟨_, rfl, resD I5 sa sb (.inl h13)⟩⟩
          rw [if_neg (by simpa using h13)]
          split
          · exact wpS_pure ⟨hs3, .inr ⟨_, _, _, _, _, _, rfl, I5, by omega, by omega, by omega, by omega, by omega⟩⟩
          · exact wpS_pure ⟨hs3, _, _, _, _, _, _, rfl, I5, by omega, by omega, by omega, by omega, by omega⟩
        · rw [if_neg hk2]
          obtain rfl : k2 = j' := by omega
          have I4 := I3
          refine wpS_bind (zaB ea ?_)
          have I5 : HI L a b (((o2 ++ (a.extract (ia' + 1) (i' + 1)).reverse).push vb).push va) ia' (k2) := by
           have := I4.pushA sa ea' fun z hz => by
            obtain ⟨n, n1, n2⟩ := zbR hz
            exact O.asym _ _ (yes2 n z (by omega) n2)
           unfold HI
           rw [Array.toList_push]
           exact this
          by_cases h13 : ia' = 0
          · rw [if_pos (by simpa using h13)]
            exact wpS_pure ⟨hs3, .inl ⟨_, rfl, resD I5 sa sb (.inl h13)⟩⟩
          rw [if_neg (by simpa using h13)]
          split
          · exact wpS_pure ⟨hs3, .inr ⟨_, _, _, _, _, _, rfl, I5, by omega, by omega, by omega, by omega, by omega⟩⟩
          · exact wpS_pure ⟨hs3, _, _, _, _, _, _, rfl, I5, by omega, by omega, by omega, by omega, by omega⟩
      · rw [if_neg hk0]
        obtain rfl : k = i' + 1 := by omega
        have I' := I2
        refine wpS_bind (zaB eb ?_)
        have I3 : HI L a b (o2.push vb) (i' + 1) j' := by
         have := I'.pushB sb eb' hle
         unfold HI
         rw [Array.toList_push]
         exact this
        by_cases h11 : j' = 1
        · rw [if_pos (by simpa using h11)]
          exact wpS_pure ⟨hs3, .inl ⟨_, rfl, resF I3 sa h11 hb hf⟩⟩
        rw [if_neg (by simpa using h11)]
        obtain ⟨va, ea, ea', ma⟩ := zaJ (a := a) (i := i') (by omega)
        refine wpS_bind (zaB ea (wpS_bind (zbS O K (hs3.kind hk) hSb (hSa _ ma) sb (by omega) (by omega) fun k2 hkn2 hyes2 hno2 => ?_)))
        have yes2 : ∀ (n : Nat) x, n < k2 → b.toList[n]? = some x → L x va = true := fun n x h1 h2 => by simpa using hyes2 n x h1 (by simpa using h2)
        have no2 : ∀ (n : Nat) x, k2 ≤ n → n < j' → b.toList[n]? = some x → L x va = false := fun n x h1 h2 h3 => by simpa using hno2 n x h1 h2 (by simpa using h3)
        dsimp only
        by_cases hk2 : j' - k2 > 0
        · rw [if_pos hk2]
          have I4 : HI L a b (o2.push vb ++ (b.extract k2 j').reverse) (i' + 1) k2 := by
           have := I3.takeB (m := k2) sb hkn2 fun z hz v hv => by
            obtain ⟨n, n1, n2, n3⟩ := zcA hz
            exact O.ntr z va v (no2 n z n1 n2 n3) (zb1 O sa ea' v hv)
           unfold HI
           rw [Array.toList_append, Array.toList_reverse, zfI]
           exact this
          by_cases h12 : k2 = 1
          · rw [if_pos (by simpa using h12)]
            exact wpS_pure ⟨hs3, .inl ⟨_, rfl, resF I4 sa h12 hb hf⟩⟩
          rw [if_neg (by simpa using h12)]
          by_cases h14 : k2 = 0
          · rw [if_pos (by simpa using h14)]
            exact wpS_pure ⟨hs3, .inl ⟨_, rfl, resD I4 sa sb (.inr h14)⟩⟩
          rw [if_neg (by simpa using h14)]
          refine wpS_bind (zaB ea ?_)
          have I5 : HI L a b ((o2.push vb ++ (b.extract k2 j').reverse).push va) i' (k2) := by
           have := I4.pushA sa ea' fun z hz => by
            obtain ⟨n, n1, n2⟩ := zbR hz
            exact O.asym _ _ (yes2 n z (by omega) n2)
           unfold HI
           rw [Array.toList_push]
           exact this
          by_cases h13 : i' = 0
          · rw [if_pos (by simpa using h13)]
            exact wpS_pure ⟨hs3, .inl ⟨_, rfl, resD I5 sa sb (.inl h13)⟩⟩
          rw [if_neg (by simpa using h13)]
          split
          · exact wpS_pure ⟨hs3, .inr ⟨_, _, _, _, _, _, rfl, I5, by omega, by omega, by omega, by omega, by omega⟩⟩
          · exact wpS_pure ⟨hs3, _, _, _, _, _, _, rfl, I5, by omega, by omega, by omega, by omega, by omega⟩
        · rw [if_neg hk2]
          obtain rfl : k2 = j' := by omega
          have I4 := I3
          refine wpS_bind (zaB ea ?_)
          have I5 : HI L a b ((o2.push vb).push va) i' (k2) := by
           have := I4.pushA sa ea' fun z hz => by
            obtain ⟨n, n1, n2⟩ := zbR hz
            exact O.asym _ _ (yes2 n z (by omega) n2)
           unfold HI
           rw [Array.toList_push]
           exact this
          by_cases h13 : i' = 0
          · rw [if_pos (by simpa using h13)]
            exact wpS_pure ⟨hs3, .inl ⟨_, rfl, resD I5 sa sb (.inl h13)⟩⟩
          rw [if_neg (by simpa using h13)]
          split
          · exact wpS_pure ⟨hs3, .inr ⟨_, _, _, _, _, _, rfl, I5, by omega, by omega, by omega, by omega, by omega⟩⟩
          · exact wpS_pure ⟨hs3, _, _, _, _, _, _, rfl, I5, by omega, by omega, by omega, by omega, by omega⟩
    · rw [if_neg hg]
      refine wpS_bind (zcM hs2 fun st3 hs3 => ?_)
      obtain ⟨vb, eb, eb', mb⟩ := zaJ (a := b) (i := j') (by omega)
      refine wpS_bind (zaB eb (wpS_bind (zbS O K (hs3.kind hk) hSa (hSb _ mb) sa (by omega) (by omega) fun k hkn hyes hno => ?_)))
      have yes : ∀ (n : Nat) x, n < k → a.toList[n]? = some x → L vb x = false := fun n x h1 h2 => by simpa using hyes n x h1 (by simpa using h2)
      have no : ∀ (n : Nat) x, k ≤ n → n < i' + 1 → a.toList[n]? = some x → L vb x = true := fun n x h1 h2 h3 => by simpa using hno n x h1 h2 (by simpa using h3)
      have hle : ∀ z ∈ a.toList.take k, L vb z = false := fun z hz => by
       obtain ⟨n, n1, n2⟩ := zbR hz
       exact yes n z n1 n2
      dsimp only
      by_cases hk0 : i' + 1 - k > 0
      · rw [if_pos hk0]
        have I' : HI L a b (o2 ++ (a.extract k (i' + 1)).reverse) k (j' + 1) := by
         have := I2.takeA (m := k) sa hkn fun z hz v hv => by
          obtain ⟨n, n1, n2, n3⟩ := zcA hz
          exact O.ntr z vb v (O.asym _ _ (no n z n1 n2 n3)) (zb1 O sb eb' v hv)
         unfold HI
         rw [Array.toList_append, Array.toList_reverse, zfI]
         exact this
        by_cases h9 : k = 0
        · rw [if_pos (by simpa using h9)]
          exact wpS_pure ⟨hs3, .inl ⟨_, rfl, resD I' sa sb (.inl h9)⟩⟩
        rw [if_neg (by simpa using h9)]
        obtain ⟨ia', rfl⟩ : ∃ m, k = m + 1 := ⟨k - 1, by omega⟩
        simp only [Nat.add_sub_cancel]
        refine wpS_bind (zaB eb ?_)
        have I3 : HI L a b ((o2 ++ (a.extract (ia' + 1) (i' + 1)).reverse).push vb) (ia' + 1) j' := by
         have := I'.pushB sb eb' hle
         unfold HI
         rw [Array.toList_push]
         exact this
        by_cases h11 : j' = 1
        · rw [if_pos (by simpa using h11)]
          exact wpS_pure ⟨hs3, .inl ⟨_, rfl, resF I3 sa h11 hb hf⟩⟩
        rw [if_neg (by simpa using h11)]
        obtain ⟨va, ea, ea', ma⟩ := zaJ (a := a) (i := ia') (by omega)
        refine wpS_bind (zaB ea (wpS_bind (zbS O K (hs3.kind hk) hSb (hSa _ ma) sb (by omega) (by omega) fun k2 hkn2 hyes2 hno2 => ?_)))
        have yes2 : ∀ (n : Nat) x, n < k2 → b.toList[n]? = some x → L x va = true := fun n x h1 h2 => by simpa using hyes2 n x h1 (by simpa using h2)
        have no2 : ∀ (n : Nat) x, k2 ≤ n → n < j' → b.toList[n]? = some x → L x va = false := fun n x h1 h2 h3 => by simpa using hno2 n x h1 h2 (by simpa using h3)
        dsimp only
        by_cases hk2 : j' - k2 > 0
        · rw [if_pos hk2]
          have I4 : HI L a b ((o2 ++ (a.extract (ia' + 1) (i' + 1)).reverse).push vb ++ (b.extract k2 j').reverse) (ia' + 1) k2 := by
           have := I3.takeB (m := k2) sb hkn2 fun z hz v hv => by
            obtain ⟨n, n1, n2, n3⟩ := zcA hz
            exact O.ntr z va v (no2 n z n1 n2 n3) (zb1 O sa ea' v hv)
           unfold HI
           rw [Array.toList_append, Array.toList_reverse, zfI]
           exact this
          by_cases h12 : k2 = 1
          · rw [if_pos (by simpa using h12)]
            exact wpS_pure ⟨hs3, .inl ⟨_, rfl, resF I4 sa h12 hb hf⟩⟩
          rw [if_neg (by simpa using h12)]
          by_cases h14 : k2 = 0
          · rw [if_pos (by simpa using h14)]
            exact wpS_pure ⟨hs3, .inl ⟨_, rfl, resD I4 sa sb (.inr h14)⟩⟩
          rw [if_neg (by simpa using h14)]
          refine wpS_bind (zaB ea ?_)
          have I5 : HI L a b (((o2 ++ (a.extract (ia' + 1) (i' + 1)).reverse).push vb ++ (b.extract k2 j').reverse).push va) ia' (k2) := by
           have := I4.pushA sa ea' fun z hz => by
            obtain ⟨n, n1, n2⟩ := zbR hz
            exact O.asym _ _ (yes2 n z (by omega) n2)
           unfold HI
           rw [Array.toList_push]
           exact this
          by_cases h13 : ia' = 0
          · rw [if_pos (by simpa using h13)]
            exact wpS_pure ⟨hs3, .inl ⟨_, rfl, resD I5 sa sb (.inl h13)⟩⟩
          rw [if_neg (by simpa using h13)]
          split
          · exact wpS_pure ⟨hs3, .inr ⟨_, _, _, _, _, _, rfl, I5, by omega, by omega, by omega, by omega, by omega⟩⟩
          · exact wpS_pure ⟨hs3, _, _, _, _, _, _, rfl, I5, by omega, by omega, by omega, by omega, by omega⟩
        · rw [if_neg hk2]
          obtain rfl : k2 = j' := by omega
          have I4 := I3
          refine wpS_bind (zaB ea ?_)
          have I5 : HI L a b (((o2 ++ (a.extract (ia' + 1) (i' + 1)).reverse).push vb).push va) ia' (k2) := by
           have := I4.pushA sa ea' fun z hz => by
            obtain ⟨n, n1, n2⟩ := zbR hz
            exact O.asym _ _ (yes2 n z (by omega) n2)
           unfold HI
           rw [Array.toList_push]
           exact this
          by_cases h13 : ia' = 0
          · rw [if_pos (by simpa using h13)]
            exact wpS_pure ⟨hs3, .inl ⟨_, rfl, resD I5 sa sb (.inl h13)⟩⟩
          rw [if_neg (by simpa using h13)]
          split
          · exact wpS_pure ⟨hs3, .inr ⟨_, _, _, _, _, _, rfl, I5, by omega, by omega, by omega, by omega, by omega⟩⟩
          · exact wpS_pure ⟨hs3, _, _, _, _, _, _, rfl, I5, by omega, by omega, by omega, by omega, by omega⟩
      · rw [if_neg hk0]
        obtain rfl : k = i' + 1 := by omega
        have I' := I2
        refine wpS_bind (zaB eb ?_)
        have I3 : HI L a b (o2.push vb) (i' + 1) j' := by
         have := I'.pushB sb eb' hle
         unfold HI
         rw [Array.toList_push]
         exact this
        by_cases h11 : j' = 1
        · rw [if_pos (by simpa using h11)]
          exact wpS_pure ⟨hs3, .inl ⟨_, rfl, resF I3 sa h11 hb hf⟩⟩
        rw [if_neg (by simpa using h11)]
        obtain ⟨va, ea, ea', ma⟩ := zaJ (a := a) (i := i') (by omega)
        refine wpS_bind (zaB ea (wpS_bind (zbS O K (hs3.kind hk) hSb (hSa _ ma) sb (by omega) (by omega) fun k2 hkn2 hyes2 hno2 => ?_)))
        have yes2 : ∀ (n : Nat) x, n < k2 → b.toList[n]? = some x → L x va = true := fun n x h1 h2 => by simpa using hyes2 n x h1 (by simpa using h2)
        have no2 : ∀ (n : Nat) x, k2 ≤ n → n < j' → b.toList[n]? = some x → L x va = false := fun n x h1 h2 h3 => by simpa using hno2 n x h1 h2 (by simpa using h3)
        dsimp only
        by_cases hk2 : j' - k2 > 0
        · rw [if_pos hk2]
          have I4 : HI L a b (o2.push vb ++ (b.extract k2 j').reverse) (i' + 1) k2 := by
           have := I3.takeB (m := k2) sb hkn2 fun z hz v hv => by
            obtain ⟨n, n1, n2, n3⟩ := zcA hz
            exact O.ntr z va v (no2 n z n1 n2 n3) (zb1 O sa ea' v hv)
           unfold HI
           rw [Array.toList_append, Array.toList_reverse, zfI]
           exact this
          by_cases h12 : k2 = 1
          · rw [if_pos (by simpa using h12)]
            exact wpS_pure ⟨hs3, .inl ⟨_, rfl, resF I4 sa h12 hb hf⟩⟩
          rw [if_neg (by simpa using h12)]
          by_cases h14 : k2 = 0
          · rw [if_pos (by simpa using h14)]
            exact wpS_pure ⟨hs3, .inl ⟨_, rfl, resD I4 sa sb (.inr h14)⟩⟩
          rw [if_neg (by simpa using h14)]
          refine wpS_bind (zaB ea ?_)
          have I5 : HI L a b ((o2.push vb ++ (b.extract k2 j').reverse).push va) i' (k2) := by
           have := I4.pushA sa ea' fun z hz => by
            obtain ⟨n, n1, n2⟩ := zbR hz
            exact O.asym _ _ (yes2 n z (by omega) n2)
           unfold HI
           rw [Array.toList_push]
           exact this
          by_cases h13 : i' = 0
          · rw [if_pos (by simpa using h13)]
            exact wpS_pure ⟨hs3, .inl ⟨_, rfl, resD I5 sa sb (.inl h13)⟩⟩
          rw [if_neg (by simpa using h13)]
          split
          · exact wpS_pure ⟨hs3, .inr ⟨_, _, _, _, _, _, rfl, I5, by omega, by omega, by omega, by omega, by omega⟩⟩
          · exact wpS_pure ⟨hs3, _, _, _, _, _, _, rfl, I5, by omega, by omega, by omega, by omega, by omega⟩
        · rw [if_neg hk2]
          obtain rfl : k2 = j' := by omega
          have I4 := I3
          refine wpS_bind (zaB ea ?_)
          have I5 : HI L a b ((o2.push vb).push va) i' (k2) := by
           have := I4.pushA sa ea' fun z hz => by
            obtain ⟨n, n1, n2⟩ := zbR hz
            exact O.asym _ _ (yes2 n z (by omega) n2)
           unfold HI
           rw [Array.toList_push]
           exact this
          by_cases h13 : i' = 0
          · rw [if_pos (by simpa using h13)]
            exact wpS_pure ⟨hs3, .inl ⟨_, rfl, resD I5 sa sb (.inl h13)⟩⟩
          rw [if_neg (by simpa using h13)]
          split
          · exact wpS_pure ⟨hs3, .inr ⟨_, _, _, _, _, _, rfl, I5, by omega, by omega, by omega, by omega, by omega⟩⟩
          · exact wpS_pure ⟨hs3, _, _, _, _, _, _, rfl, I5, by omega, by omega, by omega, by omega, by omega⟩
end
section
variable {prog : Program} {w : World} {A : Around} {E : Value → Shared → Prop} {s : Shared} {κ : SortKind} {L : Keyed → Keyed → Bool} {S : Keyed → Prop}
theorem zjw {st st2 : SortSt} {Q : PUnit → SortSt → Prop} (q : Q ⟨⟩ st2) : wpS (model prog w) A E s (set st2 : StateT SortSt Sem PUnit) Q st := by
 unfold wpS; rw [StateT.run_set]; exact wpAny_pure ⟨rfl, q⟩
theorem zf7 (O : LOrd L) (K : Asks prog w A E s κ L S) {left : Bool} {key : Keyed} {arr : Array Keyed} {base hint : Nat} {pre part post : List Keyed} {st : SortSt} {Q : Option Nat → SortSt → Prop} (hk : kindOf st = κ) (hS : ∀ x ∈ part, S x) (hkey : S key)
 (ha : arr.toList = pre ++ (part ++ post)) (hb : pre.length = base) (srt : SrtL L part) (hh : hint < part.length)
 (q : ∀ k, k ≤ part.length → (∀ x ∈ part.take k, (if left then L x key else !L key x) = true) → (∀ x ∈ part.drop k, (if left then L x key else !L key x) = false) → Q (some k) st) :
 wpS (model prog w) A E s (zbv left key arr base part.length hint) Q st := by
 have get : ∀ i, i < part.length → ∃ x, arr[base + i]? = some x ∧ part[i]? = some x ∧ x ∈ part := fun i hi => by
  refine ⟨part[i], ?_, List.getElem?_eq_getElem hi, List.getElem_mem hi⟩
  rw [← Array.getElem?_toList, ha, ← hb, List.getElem?_append_right (by omega), Nat.add_sub_cancel_left, List.getElem?_append_left hi, List.getElem?_eq_getElem hi]
 refine zeM (fun i => match arr[base + i]? with | some x => (if left then L x key else !L key x) | none => false) (fun i hi Q' q' => ?_) (fun i j hij hj hb => ?_) hh fun k hc => q k hc.le (fun x hx => ?_) fun x hx => ?_
 · obtain ⟨x, e, _, hm⟩ := get i hi
   rw [e] at q'
   refine wpS_bind (zaB e ?_)
   cases left with
   | true => exact K x key st _ (hS x hm) hkey hk q'
   | false => exact wpS_bind (K key x st _ hkey (hS x hm) hk (wpS_pure q'))
 · obtain ⟨x, ex, ex', _⟩ := get i (by omega)
   obtain ⟨y, ey, ey', _⟩ := get j hj
   rw [ey] at hb
   show (match arr[base + i]? with | some x => (if left then L x key else !L key x) | none => false) = true
   rw [ex]
   have le : L y x = false := by
    obtain ⟨h1, e1⟩ := List.getElem?_eq_some_iff.mp ex'
    obtain ⟨h2, e2⟩ := List.getElem?_eq_some_iff.mp ey'
    have := List.pairwise_iff_getElem.mp srt i j h1 h2 hij
    rw [e1, e2] at this
    exact this
   cases left with
   | true =>
    have hb : L y key = true := hb
    show L x key = true
    cases z : L x key with
    | true => rfl
    | false => rw [O.ntr y x key le z] at hb; cases hb
   | false =>
    have hb : (!L key y) = true := hb
    show (!L key x) = true
    have hb : L key y = false := by simpa using hb
    rw [O.ntr key y x hb le]
    rfl
 · obtain ⟨n, n1, n2⟩ := zbR hx
   have := hc.yes n n1
   obtain ⟨y, ey, ey', _⟩ := get n (by have := hc.le; omega)
   rw [ey] at this
   rw [n2] at ey'
   cases ey'
   exact this
 · obtain ⟨n, n1, n2, n3⟩ := zaV hx
   have := hc.no n n1 n2
   obtain ⟨y, ey, ey', _⟩ := get n n2
   rw [ey] at this
   rw [n3] at ey'
   cases ey'
   exact this
theorem zhf : ∀ (m : List Keyed) (n off : Nat) (arr : Array Keyed), off + n + m.length ≤ arr.size →
 ((m.zipIdx n).foldl (fun a (p : Keyed × Nat) => a.setIfInBounds (off + p.2) p.1) arr).toList = arr.toList.take (off + n) ++ m ++ arr.toList.drop (off + n + m.length)
 | [], n, off, arr, h => by simp
 | x :: m, n, off, arr, h => by
  rw [List.zipIdx_cons, List.foldl_cons]
  rw [zhf m (n + 1) off _ (by rw [Array.size_setIfInBounds]; simp at h; omega)]
  rw [Array.toList_setIfInBounds]
  simp only [List.length_cons] at h ⊢
  have hl : off + n < arr.toList.length := by simp; omega
  rw [show off + (n + 1) = (off + n) + 1 by omega]
  rw [List.take_set, List.drop_set_of_lt (by omega)]
  rw [List.take_succ, List.getElem?_eq_getElem hl]
  rw [List.set_append_right _ _ (by simp; omega)]
  have e : off + n - (arr.toList.take (off + n)).length = 0 := by rw [List.length_take]; omega
  rw [e]
  simp only [Option.toList_some, List.set_cons_zero, List.append_assoc, List.cons_append, List.nil_append]
  rw [show off + n + 1 + m.length = off + n + (m.length + 1) by omega]
end
theorem zfD (i : Nat) : mergeAt' i = (do
 let s ← get
 let (some (sa, na, power), some (sb, nb, _)) := ((pendingOf s)[i]?, (pendingOf s)[i + 1]?) | unsupported "internal:list.sort.pending"
 set (setPending s (((pendingOf s).setIfInBounds i (sa, na + nb, power)).eraseIdxIfInBounds (i + 1)))
 let some k ← zbv false (← elem' (arrOf s) sb) (arrOf s) sa na 0 | return false
 let (sa, na) := (sa + k, na - k)
 if na == 0 then return true
 let some nb ← zbv true (← elem' (arrOf s) (sa + na - 1)) (arrOf s) sb nb (nb - 1) | return false
 if nb == 0 then return true
 let x := (arrOf s).extract sa sb
 let y := (arrOf s).extract sb (sb + nb)
 let merged ← if na ≤ nb then zea x y else zeb x y
 modify fun s => setArr s (merged.toList.zipIdx.foldl (fun a (p, j) => a.setIfInBounds (sa + j) p) (arrOf s))
 return (failedOf (← get)).isNone) := rfl
section
variable {prog : Program} {w : World} {A : Around} {E : Value → Shared → Prop} {s : Shared} {κ : SortKind} {L : Keyed → Keyed → Bool} {S : Keyed → Prop}
theorem zgA (O : LOrd L) (K : Asks prog w A E s κ L S) {i pw pw2 : Nat} {P Ra Rb R : List Keyed} {st : SortSt} {Q : Bool → SortSt → Prop} (hk : kindOf st = κ) (hf : failedOf st = none)
 (ha : (arrOf st).toList = P ++ (Ra ++ (Rb ++ R))) (p1 : (pendingOf st)[i]? = some (P.length, Ra.length, pw)) (p2 : (pendingOf st)[i + 1]? = some (P.length + Ra.length, Rb.length, pw2)) (na : Ra ≠ []) (nb : Rb ≠ [])
 (sa : SrtL L Ra) (sb : SrtL L Rb) (hSa : ∀ x ∈ Ra, S x) (hSb : ∀ x ∈ Rb, S x)
 (q : ∀ st' C, kindOf st' = κ → failedOf st' = none → pendingOf st' = ((pendingOf st).setIfInBounds i (P.length, Ra.length + Rb.length, pw)).eraseIdxIfInBounds (i + 1) → (arrOf st').toList = P ++ (C ++ R) → C.Perm (Ra ++ Rb) → SrtL L C → Q true st') :
 wpS (model prog w) A E s (mergeAt' i) Q st := by
 rw [zfD]
 refine wpS_bind (wpS_get ?_)
 rw [p1, p2]
 dsimp only
 refine wpS_bind (zjw ?_)
 obtain ⟨b0, Rb', rfl⟩ : ∃ b0 Rb', Rb = b0 :: Rb' := by
  cases Rb with
  | nil => exact absurd rfl nb
  | cons x r => exact ⟨x, r, rfl⟩
 have hA : ∀ z, z ∈ Ra → 0 < Ra.length := fun z hz => List.length_pos_of_mem hz
 have la : 0 < Ra.length := List.length_pos_iff.mpr na
 have eb : (arrOf st)[P.length + Ra.length]? = some b0 := by
  rw [← Array.getElem?_toList, ha, List.getElem?_append_right (by omega), List.getElem?_append_right (by omega)]
  simp
 refine wpS_bind (zaB eb ?_)
 refine wpS_bind (zf7 O K (pre := P) (part := Ra) (post := b0 :: Rb' ++ R) hk hSa (hSb b0 (by simp)) ha rfl sa la fun k hkl yes no => ?_)
 have yes : ∀ x ∈ Ra.take k, L b0 x = false := fun x hx => by simpa using yes x hx
 have no : ∀ x ∈ Ra.drop k, L b0 x = true := fun x hx => by simpa using no x hx
 have b0le : ∀ y ∈ b0 :: Rb', L y b0 = false := fun y hy => by
  rcases List.mem_cons.mp hy with rfl | hy
  · exact O.irr _
  · exact (List.pairwise_cons.mp sb).1 y hy
 dsimp only
 by_cases hk0 : Ra.length - k = 0
 · rw [if_pos (by simpa using hk0)]
   have : Ra.take k = Ra := List.take_of_length_le (by omega)
   rw [this] at yes
   refine wpS_pure (q _ (Ra ++ b0 :: Rb') hk hf rfl (by rw [ha]; simp) (List.Perm.refl _) (zaS sa sb fun x hx y hy => ?_))
   exact O.ntr y b0 x (b0le y hy) (yes x hx)
 rw [if_neg (by simpa using hk0)]
 obtain ⟨zl, Rl, hz⟩ : ∃ zl Rl, Ra.drop k = Rl ++ [zl] := by
  have hne : Ra.drop k ≠ [] := fun z => by have := congrArg List.length z; simp at this; omega
  exact ⟨(Ra.drop k).getLast hne, (Ra.drop k).dropLast, (List.dropLast_concat_getLast hne).symm⟩
 have hRl : Rl.length + 1 = Ra.length - k := by have := congrArg List.length hz; simp at this; omega
 have eRa : Ra = Ra.take k ++ (Rl ++ [zl]) := by rw [← hz, List.take_append_drop]
 have ltk : (Ra.take k).length = k := by rw [List.length_take]; omega
 have zm : zl ∈ Ra := by rw [eRa]; simp
 have ez : (arrOf st)[P.length + k + (Ra.length - k) - 1]? = some zl := by
  rw [show P.length + k + (Ra.length - k) - 1 = P.length + (k + Rl.length) by omega]
  rw [← Array.getElem?_toList, ha, List.getElem?_append_right (by omega), Nat.add_sub_cancel_left, List.getElem?_append_left (by omega), ← List.getElem?_drop, hz]
  simp
 refine wpS_bind (zaB ez ?_)
 have ha2 : (arrOf st).toList = (P ++ Ra) ++ (b0 :: Rb' ++ R) := by rw [ha]; simp
 refine wpS_bind (zf7 O K (pre := P ++ Ra) (part := b0 :: Rb') (post := R) hk hSb (hSa zl zm) ha2 (by simp) sb (by simp) fun k2 hkl2 yes2 no2 => ?_)
 have yes2 : ∀ x ∈ (b0 :: Rb').take k2, L x zl = true := fun x hx => by simpa using yes2 x hx
 have no2 : ∀ x ∈ (b0 :: Rb').drop k2, L x zl = false := fun x hx => by simpa using no2 x hx
 dsimp only
 by_cases hk2 : k2 = 0
 · exfalso
   subst hk2
   have h1 := no2 b0 (by simp)
   rw [no zl (by rw [hz]; simp)] at h1
   cases h1
 rw [if_neg (by simpa using hk2)]
 have ex : ((arrOf st).extract (P.length + k) (P.length + Ra.length)).toList = Rl ++ [zl] := by
  rw [zfI, ha, List.take_append, List.take_of_length_le (by omega), Nat.add_sub_cancel_left, List.take_left, List.drop_append, List.drop_eq_nil_of_le (by omega), Nat.add_sub_cancel_left, hz]
  rfl
 have ey : ((arrOf st).extract (P.length + Ra.length) (P.length + Ra.length + k2)).toList = (b0 :: Rb').take k2 := by
  rw [zfJ, ha2, show P.length + Ra.length = (P ++ Ra).length by simp, List.drop_left, List.take_append, Nat.sub_eq_zero_of_le hkl2, List.take_zero, List.append_nil]
 have sX : SrtL L ((arrOf st).extract (P.length + k) (P.length + Ra.length)).toList := by rw [ex, ← hz]; exact sa.sublist (List.drop_sublist _ _)
 have sY : SrtL L ((arrOf st).extract (P.length + Ra.length) (P.length + Ra.length + k2)).toList := by rw [ey]; exact sb.sublist (List.take_sublist _ _)
 have SX : ∀ x ∈ ((arrOf st).extract (P.length + k) (P.length + Ra.length)).toList, S x := fun x hx => by rw [ex, ← hz] at hx; exact hSa x (List.mem_of_mem_drop hx)
 have SY : ∀ x ∈ ((arrOf st).extract (P.length + Ra.length) (P.length + Ra.length + k2)).toList, S x := fun x hx => by rw [ey] at hx; exact hSb x (List.mem_of_mem_take hx)
 have ey0 : ((b0 :: Rb').take k2)[0]? = some b0 := by
  obtain ⟨n, rfl⟩ : ∃ n, k2 = n + 1 := ⟨k2 - 1, by omega⟩
  rfl
 generalize hX : (arrOf st).extract (P.length + k) (P.length + Ra.length) = X at *
 generalize hY : (arrOf st).extract (P.length + Ra.length) (P.length + Ra.length + k2) = Y at *
 have szX : X.size = Rl.length + 1 := by have := congrArg List.length ex; simpa using this
 have szY : Y.size = k2 := by have := congrArg List.length ey; rw [List.length_take] at this; simp at this; simp at hkl2; omega
 have first : ∀ y, Y[0]? = some y → ∀ x ∈ X.toList, L x y = false := fun y hy x hx => by
  rw [← Array.getElem?_toList, ey, ey0] at hy
  cases hy
  rw [ex, ← hz] at hx
  exact O.asym _ _ (no x hx)
 have last : ∀ z, X[X.size - 1]? = some z → ∀ y ∈ Y.toList, L z y = false := fun z hz' y hy => by
  rw [← Array.getElem?_toList, ex, szX, List.getElem?_append_right (by omega), show Rl.length + 1 - 1 - Rl.length = 0 by omega] at hz'
  cases hz'
  rw [ey] at hy
  exact O.asym _ _ (yes2 y hy)
 have fin : ∀ (o : Array Keyed) (st' : SortSt), StG (setPending st (((pendingOf st).setIfInBounds i (P.length, Ra.length + (b0 :: Rb').length, pw)).eraseIdxIfInBounds (i + 1))) st' → Res L X Y o →
  wpS (model prog w) A E s (do
   modify fun s => setArr s (o.toList.zipIdx.foldl (fun a (p, j) => a.setIfInBounds (P.length + k + j) p) (arrOf s))
   return (failedOf (← get)).isNone) Q st' := fun o st' hs ⟨r1, r2⟩ => by
  obtain ⟨g, rfl⟩ := hs
  refine wpS_bind (wpS_modify (wpS_bind (wpS_get ?_)))
  have lo : o.toList.length = (Ra.length - k) + k2 := by rw [r1.length_eq, List.length_append, ex, ey, List.length_append, List.length_take]; simp; simp at hkl2; omega
  have lA : (arrOf st).size = P.length + Ra.length + (Rb'.length + 1) + R.length := by have := congrArg List.length ha; simp at this; omega
  have ov := zhf o.toList 0 (P.length + k) (arrOf st) (by rw [lo, lA]; simp at hkl2; omega)
  have hfn : (failedOf st).isNone = true := by rw [hf]; rfl
  show wpS _ _ _ _ (pure (failedOf st).isNone) _ _
  rw [hfn]
  refine wpS_pure (q _ (Ra.take k ++ o.toList ++ (b0 :: Rb').drop k2) hk hf rfl ?_ ?_ ?_)
  · refine ov.trans ?_
    rw [Nat.add_zero, lo]
    have t1 : (arrOf st).toList.take (P.length + k) = P ++ Ra.take k := by
     rw [ha, List.take_append, List.take_of_length_le (by omega), Nat.add_sub_cancel_left, List.take_append_of_le_length hkl]
    have t2 : (arrOf st).toList.drop (P.length + k + (Ra.length - k + k2)) = (b0 :: Rb').drop k2 ++ R := by
     rw [ha2, show P.length + k + (Ra.length - k + k2) = (P ++ Ra).length + k2 by simp; omega, ← List.drop_drop, List.drop_left, List.drop_append_of_le_length hkl2]
    rw [t1, t2]
    simp
  · have e1 : Ra ++ (b0 :: Rb') = Ra.take k ++ ((Rl ++ [zl]) ++ (b0 :: Rb').take k2) ++ (b0 :: Rb').drop k2 := by
     conv => lhs; rw [eRa, ← List.take_append_drop k2 (b0 :: Rb')]
     simp
    rw [e1]
    rw [ex, ey] at r1
    exact List.Perm.append_right _ (List.Perm.append_left _ r1)
  · have memo : ∀ {x}, x ∈ o.toList → x ∈ Ra.drop k ∨ x ∈ (b0 :: Rb').take k2 := fun {x} hx => by
     have := r1.mem_iff.mp hx
     rw [ex, ey, ← hz] at this
     exact List.mem_append.mp this
    have sA2 : SrtL L (Ra.take k ++ Ra.drop k) := by rw [List.take_append_drop]; exact sa
    have sB2 : SrtL L ((b0 :: Rb').take k2 ++ (b0 :: Rb').drop k2) := by rw [List.take_append_drop]; exact sb
    have zle : ∀ x ∈ Ra.drop k, L zl x = false := fun x hx => by
     rw [hz] at hx
     rcases List.mem_append.mp hx with hx | hx
     · have s2 : SrtL L (Rl ++ [zl]) := by rw [← hz]; exact sa.sublist (List.drop_sublist _ _)
       exact (List.pairwise_append.mp s2).2.2 x hx zl (by simp)
     · rw [List.mem_singleton.mp hx]; exact O.irr _
    refine zaS (zaS (sa.sublist (List.take_sublist _ _)) r2 fun x hx y hy => ?_) (sb.sublist (List.drop_sublist _ _)) fun x hx y hy => ?_
    · rcases memo hy with hy | hy
      · exact (List.pairwise_append.mp sA2).2.2 x hx y hy
      · exact O.ntr y b0 x (b0le y (List.mem_of_mem_take hy)) (yes x hx)
    · rcases List.mem_append.mp hx with hx | hx
      · exact O.ntr y b0 x (b0le y (List.mem_of_mem_drop hy)) (yes x hx)
      · rcases memo hx with hx | hx
        · exact O.ntr y zl x (no2 y hy) (zle x hx)
        · exact (List.pairwise_append.mp sB2).2.2 x hx y hy
 have hk' : kindOf (setPending st (((pendingOf st).setIfInBounds i (P.length, Ra.length + (b0 :: Rb').length, pw)).eraseIdxIfInBounds (i + 1))) = κ := hk
 by_cases hle : Ra.length - k ≤ k2
 · rw [if_pos hle]
   refine wpS_bind (zgy O K hk' SX SY sX sY (by omega) (by omega) first last fun o st' hs r => ?_)
   exact fin o st' hs r
 · rw [if_neg hle]
   refine wpS_bind (zgz O K hk' SX SY sX sY (by omega) (by omega) first last fun o st' hs r => ?_)
   exact fin o st' hs r
end
theorem zh1 {arr : Array Keyed} {U V : List Keyed} {x y : Keyed} (h : arr.toList = U ++ (x :: y :: V)) : (arr.swapIfInBounds (U.length + 1) U.length).toList = U ++ (y :: x :: V) := by
 have hs : arr.size = U.length + (V.length + 1 + 1) := by have := congrArg List.length h; simpa using this
 have g : ∀ k, arr[k]? = (U ++ (x :: y :: V))[k]? := fun k => by rw [← h, Array.getElem?_toList]
 apply List.ext_getElem?
 intro k
 rw [Array.getElem?_toList, getElem?_swapIB (by omega) (by omega), g, g, g]
 by_cases h1 : U.length = k
 · rw [if_pos h1, ← h1, List.getElem?_append_right (by omega), List.getElem?_append_right (by omega)]
   simp
 · rw [if_neg h1]
   by_cases h2 : U.length + 1 = k
   · rw [if_pos h2, ← h2, List.getElem?_append_right (by omega), List.getElem?_append_right (by omega)]
     simp
   · rw [if_neg h2]
     rcases Nat.lt_or_ge k U.length with h3 | h3
     · rw [List.getElem?_append_left h3, List.getElem?_append_left h3]
     · rw [List.getElem?_append_right h3, List.getElem?_append_right h3]
       obtain ⟨m, hm⟩ : ∃ m, k - U.length = m + 1 + 1 := ⟨k - U.length - 2, by omega⟩
       rw [hm]
       rfl
theorem zfN {arr : Array Keyed} {U Z : List Keyed} {piv : Keyed} : ∀ (d : Nat) {Y : List Keyed}, Y.length = d → arr.toList = U ++ (Y ++ (piv :: Z)) → (bubble arr (U.length + d) d).toList = U ++ (piv :: (Y ++ Z)) := by
 have go : ∀ (d : Nat) (W Y : List Keyed), Y.length = d → ∀ n, n = W.length + d → arr.toList = W ++ (Y ++ (piv :: Z)) → (bubble arr n d).toList = W ++ (piv :: (Y ++ Z)) := by
  intro d
  induction d with
  | zero =>
   intro W Y hY n hn h
   obtain rfl := List.length_eq_zero_iff.mp hY
   show arr.toList = _
   simpa using h
  | succ d ih =>
   intro W Y hY n hn h
   obtain ⟨y, Y', rfl⟩ : ∃ y Y', Y = y :: Y' := by
    cases Y with
    | nil => cases hY
    | cons y Y' => exact ⟨y, Y', rfl⟩
   have := ih (W ++ [y]) Y' (by simpa using hY) n (by simp; omega) (by rw [h]; simp)
   rw [bubble_succ]
   rw [show n - d = W.length + 1 by omega, show W.length + 1 - 1 = W.length by omega]
   exact zh1 (x := y) (y := piv) (V := Y' ++ Z) (by rw [this]; simp)
 exact fun d Y hY h => go d U Y hY _ rfl h
theorem zdv (lo n ok : Nat) : binarySort' lo n ok = (do
 for k in [max ok 1 : n] do
  let mut l := 0
  let mut r := k
  for _ in [0:k] do
   if l ≥ r then break
   let m := (l + r) / 2
   let some less ← ltAt' (lo + k) (lo + m) | return false
   if less then r := m else l := m + 1
  moveDown' (lo + k) (lo + l)
 return true) := rfl
section
variable {prog : Program} {w : World} {A : Around} {E : Value → Shared → Prop} {s : Shared} {κ : SortKind} {L : Keyed → Keyed → Bool} {S : Keyed → Prop}
def StA (st st' : SortSt) : Prop := ∃ xs, st' = setArr st xs
theorem zdq (K : Asks prog w A E s κ L S) {i j : Nat} {x y : Keyed} {st : SortSt} {Q : Option Bool → SortSt → Prop} (hk : kindOf st = κ) (hi : (arrOf st)[i]? = some x) (hj : (arrOf st)[j]? = some y) (hx : S x) (hy : S y) (q : Q (some (L x y)) st) : wpS (model prog w) A E s (ltAt' i j) Q st := by
 rw [ltAt'_eq]
 refine wpS_bind (wpS_get ?_)
 exact wpS_bind (zaB hi (wpS_bind (zaB hj (K x y st _ hx hy hk q))))
theorem zel (O : LOrd L) (K : Asks prog w A E s κ L S) {lo n ok : Nat} {P X R : List Keyed} {st : SortSt} {Q : Bool → SortSt → Prop} (hk : kindOf st = κ) (ha : (arrOf st).toList = P ++ (X ++ R)) (hP : P.length = lo) (hX : X.length = n) (hn : 1 ≤ n) (hok : ok ≤ n) (srt : SrtL L (X.take ok)) (hS : ∀ x ∈ X, S x)
 (q : ∀ st' C, StA st st' → (arrOf st').toList = P ++ (C ++ R) → C.Perm X → SrtL L C → Q true st') : wpS (model prog w) A E s (binarySort' lo n ok) Q st := by
 rw [zdv]
 refine wpS_bind (wpS_mono (wpS_forRange
  (I := fun k c st' => c = (none, ⟨⟩) ∧ StA st st' ∧ ∃ C, (arrOf st').toList = P ++ (C ++ R) ∧ C.Perm X ∧ SrtL L (C.take k))
  (Q := fun c st' => c = (none, ⟨⟩) ∧ StA st st' ∧ ∃ C, (arrOf st').toList = P ++ (C ++ R) ∧ C.Perm X ∧ SrtL L C) ?step ?fin ⟨rfl, ⟨_, rfl⟩, X, ha, List.Perm.refl _, ?init⟩) ?post)
 case init =>
  by_cases h : 1 ≤ ok
  · rw [Nat.max_eq_left h]; exact srt
  · rw [Nat.max_eq_right (by omega)]
    cases X with
    | nil => simp
    | cons x X' => simp
 case fin =>
  rintro c st' ⟨hc, hs, C, h1, h2, h3⟩
  refine ⟨hc, hs, C, h1, h2, ?_⟩
  have : C.length = n := by rw [h2.length_eq, hX]
  rw [List.take_of_length_le (by omega)] at h3
  exact h3
 case post =>
  rintro c st' ⟨rfl, hs, C, h1, h2, h3⟩
  exact wpS_pure (q st' C hs h1 h2 h3)
 case step =>
  rintro k c st' hk1 hkn ⟨rfl, ⟨xs, rfl⟩, C, h1, h2, h3⟩
  dsimp only
  have lC : C.length = n := by rw [h2.length_eq, hX]
  have hSC : ∀ x ∈ C, S x := fun x hx => hS x (h2.mem_iff.mp hx)
  have idx : ∀ m x, C[m]? = some x → (arrOf (setArr st xs))[lo + m]? = some x := fun m x e => by
   have hm : m < C.length := (List.getElem?_eq_some_iff.mp e).1
   rw [← Array.getElem?_toList, h1, ← hP, List.getElem?_append_right (by omega), Nat.add_sub_cancel_left, List.getElem?_append_left hm, e]
  obtain ⟨piv, hp⟩ : ∃ piv, C[k]? = some piv := ⟨C[k]'(by omega), List.getElem?_eq_getElem _⟩
  have hpm : piv ∈ C := List.mem_of_getElem? hp
  have srtk : ∀ i j x y, i ≤ j → j < k → C[i]? = some x → C[j]? = some y → L y x = false := fun i j x y hij hj ex ey => by
   rcases Nat.lt_or_ge i j with z | z
   · have e1 : (C.take k)[i]? = some x := by rw [List.getElem?_take, if_pos (by omega)]; exact ex
     have e2 : (C.take k)[j]? = some y := by rw [List.getElem?_take, if_pos hj]; exact ey
     obtain ⟨a1, b1⟩ := List.getElem?_eq_some_iff.mp e1
     obtain ⟨a2, b2⟩ := List.getElem?_eq_some_iff.mp e2
     have := List.pairwise_iff_getElem.mp h3 i j a1 a2 z
     rw [b1, b2] at this
     exact this
   · obtain rfl : i = j := by omega
     rw [ex] at ey
     cases ey
     exact O.irr _
  refine wpS_bind (wpS_mono (wpS_forRange
   (I := fun y c st' => st' = setArr st xs ∧ ∃ l r, c = (none, l, r) ∧ l ≤ r ∧ r ≤ k ∧ (∀ i x, i < l → C[i]? = some x → L piv x = false) ∧ (∀ i x, r ≤ i → i < k → C[i]? = some x → L piv x = true) ∧ r - l + y ≤ k)
   (Q := fun c st' => st' = setArr st xs ∧ ∃ l, c = (none, l, l) ∧ l ≤ k ∧ (∀ i x, i < l → C[i]? = some x → L piv x = false) ∧ (∀ i x, l ≤ i → i < k → C[i]? = some x → L piv x = true)) ?step1 ?fin1 ⟨rfl, 0, k, rfl, by omega, by omega, fun i x hi => by omega, fun i x h1 h2 => by omega, by omega⟩) ?post1)
  case fin1 =>
   rintro c st' ⟨hs, l, r, rfl, a1, a2, a3, a4, a5⟩
   obtain rfl : l = r := by omega
   exact ⟨hs, l, rfl, a2, a3, a4⟩
  case step1 =>
   rintro y c st' _ hy ⟨rfl, l, r, rfl, a1, a2, a3, a4, a5⟩
   dsimp only
   by_cases h : l ≥ r
   · rw [if_pos h]
     obtain rfl : l = r := by omega
     exact wpS_pure ⟨rfl, l, rfl, a2, a3, a4⟩
   rw [if_neg h]
   obtain ⟨v, hv⟩ : ∃ v, C[(l + r) / 2]? = some v := ⟨C[(l + r) / 2]'(by omega), List.getElem?_eq_getElem _⟩
   refine wpS_bind (zdq K hk (idx _ _ hp) (idx _ _ hv) (hSC _ hpm) (hSC _ (List.mem_of_getElem? hv)) ?_)
   dsimp only
   cases hw : L piv v with
   | true =>
    rw [if_pos rfl]
    refine wpS_pure ⟨rfl, _, _, rfl, by omega, by omega, a3, fun i x b1 b2 ex => ?_, by omega⟩
    cases e : L piv x with
    | true => rfl
    | false =>
     have := O.ntr piv x v e (srtk _ _ _ _ b1 b2 hv ex)
     rw [this] at hw
     cases hw
   | false =>
    rw [if_neg (by simp)]
    exact wpS_pure ⟨rfl, _, _, rfl, by omega, by omega, fun i x b1 ex => O.ntr piv v x hw (srtk _ _ _ _ (by omega) (by omega) ex hv), a4, by omega⟩
  case post1 =>
   rintro c st' ⟨rfl, l, rfl, a2, a3, a4⟩
   dsimp only
   rw [moveDown'_eq]
   refine wpS_bind (wpS_modify (wpS_pure ⟨rfl, ⟨_, rfl⟩, C.take l ++ (piv :: ((C.take k).drop l ++ C.drop (k + 1))), ?_, ?_, ?_⟩))
   · have e1 : C = C.take l ++ ((C.take k).drop l ++ (piv :: C.drop (k + 1))) := by
      have e2 : C.take k = C.take l ++ (C.take k).drop l := by
       have := List.take_append_drop l (C.take k)
       rw [List.take_take, Nat.min_eq_left a2] at this
       exact this.symm
      have e3 : C.drop k = piv :: C.drop (k + 1) := by
       obtain ⟨z1, z2⟩ := List.getElem?_eq_some_iff.mp hp
       rw [List.drop_eq_getElem_cons z1, z2]
      rw [← List.append_assoc, ← e2, ← e3, List.take_append_drop]
     have e4 : (arrOf (setArr st xs)).toList = (P ++ C.take l) ++ ((C.take k).drop l ++ (piv :: (C.drop (k + 1) ++ R))) := by
      rw [h1]
      conv => lhs; rw [e1]
      simp
     have := zfN (k - l) (by rw [List.length_drop, List.length_take]; omega) e4
     rw [show (P ++ C.take l).length + (k - l) = lo + k by rw [List.length_append, List.length_take]; omega] at this
     rw [show lo + k - (lo + l) = k - l by omega]
     refine this.trans ?_
     simp
   · refine List.Perm.trans ?_ h2
     have e2 : C.take k = C.take l ++ (C.take k).drop l := by
      have := List.take_append_drop l (C.take k)
      rw [List.take_take, Nat.min_eq_left a2] at this
      exact this.symm
     have e3 : C.drop k = piv :: C.drop (k + 1) := by
      obtain ⟨z1, z2⟩ := List.getElem?_eq_some_iff.mp hp
      rw [List.drop_eq_getElem_cons z1, z2]
     have e1 : C = C.take l ++ ((C.take k).drop l ++ (piv :: C.drop (k + 1))) := by rw [← List.append_assoc, ← e2, ← e3, List.take_append_drop]
     conv => rhs; rw [e1]
     refine List.Perm.append_left _ ?_
     exact List.perm_middle.symm
   · have e5 : (C.take l ++ (piv :: ((C.take k).drop l ++ C.drop (k + 1)))).take (k + 1) = C.take l ++ (piv :: (C.take k).drop l) := by
      have hlen : (C.take l ++ (piv :: (C.take k).drop l)).length = k + 1 := by simp; omega
      rw [show C.take l ++ (piv :: ((C.take k).drop l ++ C.drop (k + 1))) = (C.take l ++ (piv :: (C.take k).drop l)) ++ C.drop (k + 1) by simp, ← hlen, List.take_left]
     rw [e5]
     have sub1 : SrtL L (C.take l) := h3.sublist (by rw [show C.take l = (C.take k).take l by rw [List.take_take, Nat.min_eq_left a2]]; exact List.take_sublist _ _)
     refine zaS sub1 (List.pairwise_cons.mpr ⟨fun y hy => ?_, h3.sublist (List.drop_sublist _ _)⟩) fun x hx y hy => ?_
     · obtain ⟨j, j1, j2, j3⟩ := zcA hy
       exact O.asym _ _ (a4 j y j1 j2 j3)
     · obtain ⟨i, i1, i2⟩ := zbR hx
       rcases List.mem_cons.mp hy with rfl | hy
       · exact a3 i x i1 i2
       · obtain ⟨j, j1, j2, j3⟩ := zcA hy
         exact srtk i j x y (by omega) j2 i2 j3
end
theorem zfA {arr : Array Keyed} {U Y Z : List Keyed} (h : arr.toList = U ++ (Y ++ Z)) : (mirror arr U.length (U.length + Y.length) ((U.length + Y.length - U.length) / 2)).toList = U ++ (Y.reverse ++ Z) := by
 have hs : arr.size = U.length + (Y.length + Z.length) := by have := congrArg List.length h; simpa using this
 have g : ∀ k, arr[k]? = (U ++ (Y ++ Z))[k]? := fun k => by rw [← h, Array.getElem?_toList]
 apply List.ext_getElem?
 intro k
 rw [Array.getElem?_toList, getElem?_mirror_all (by omega), g, g]
 by_cases h1 : U.length ≤ k ∧ k < U.length + Y.length
 · rw [if_pos h1]
   have l1 : (U ++ (Y ++ Z))[U.length + (U.length + Y.length) - 1 - k]? = Y[Y.length - 1 - (k - U.length)]? := by
    rw [List.getElem?_append_right (by omega), List.getElem?_append_left (by omega)]
    congr 1
    omega
   have l2 : (U ++ (Y.reverse ++ Z))[k]? = Y.reverse[k - U.length]? := by
    rw [List.getElem?_append_right (by omega), List.getElem?_append_left (by simp; omega)]
   rw [l1, l2, List.getElem?_reverse (by omega)]
 · rw [if_neg h1]
   rcases Nat.lt_or_ge k U.length with h3 | h3
   · rw [List.getElem?_append_left h3, List.getElem?_append_left h3]
   · have l1 : (U ++ (Y ++ Z))[k]? = Z[k - U.length - Y.length]? := by
      rw [List.getElem?_append_right h3, List.getElem?_append_right (by omega)]
     have l2 : (U ++ (Y.reverse ++ Z))[k]? = Z[k - U.length - Y.length]? := by
      rw [List.getElem?_append_right h3, List.getElem?_append_right (by simp; omega)]
      simp
     rw [l1, l2]
theorem zeg (lo nrem : Nat) : countRun' lo nrem = (do
 let mut n := 1
 for _ in [1:nrem] do
  let some smaller ← ltAt' (lo + n) (lo + n - 1) | return none
  if smaller then break
  n := n + 1
 if n == nrem then return some n
 if n > 1 then
  let some rose ← ltAt' lo (lo + n - 1) | return none
  if rose then return some n
  reverseSlice' lo (lo + n)
 rule "list.sort.descending-run"
 n := n + 1
 let mut neq := 0
 for _ in [n:nrem] do
  let some smaller ← ltAt' (lo + n) (lo + n - 1) | return none
  if smaller then
   if neq > 0 then reverseSlice' (lo + n - (neq + 1)) (lo + n)
   neq := 0
  else
   let some larger ← ltAt' (lo + n - 1) (lo + n) | return none
   if larger then break
   neq := neq + 1
  n := n + 1
 if neq > 0 then reverseSlice' (lo + n - (neq + 1)) (lo + n)
 reverseSlice' lo (lo + n)
 for _ in [n:nrem] do
  let some smaller ← ltAt' (lo + n) (lo + n - 1) | return none
  if smaller then break
  n := n + 1
 return some n) := rfl
section
variable {prog : Program} {w : World} {A : Around} {E : Value → Shared → Prop} {s : Shared} {κ : SortKind} {L : Keyed → Keyed → Bool} {S : Keyed → Prop}
structure At (st0 st : SortSt) (P X R C : List Keyed) : Prop where
 same : StA st0 st
 arr : (arrOf st).toList = P ++ (C ++ R)
 perm : C.Perm X
theorem At.get {st0 st : SortSt} {P X R C : List Keyed} (h : At st0 st P X R C) {m : Nat} {x : Keyed} (e : C[m]? = some x) : (arrOf st)[P.length + m]? = some x := by
 have hm : m < C.length := (List.getElem?_eq_some_iff.mp e).1
 rw [← Array.getElem?_toList, h.arr, List.getElem?_append_right (by omega), Nat.add_sub_cancel_left, List.getElem?_append_left hm, e]
theorem At.kind {st0 st : SortSt} {P X R C : List Keyed} (h : At st0 st P X R C) (hk : kindOf st0 = κ) : kindOf st = κ := by obtain ⟨xs, rfl⟩ := h.same; exact hk
theorem At.rev {st0 st : SortSt} {P X R C : List Keyed} (h : At st0 st P X R C) {U Y Z : List Keyed} (hC : C = U ++ (Y ++ Z)) {i j : Nat} (hi : i = P.length + U.length) (hj : j = i + Y.length) {Q : Unit → SortSt → Prop} (q : ∀ st', At st0 st' P X R (U ++ (Y.reverse ++ Z)) → Q () st') : wpS (model prog w) A E s (reverseSlice' i j) Q st := by
 rw [reverseSlice'_eq]
 refine wpS_modify (q _ ⟨?_, ?_, ?_⟩)
 · obtain ⟨xs, rfl⟩ := h.same; exact ⟨_, rfl⟩
 · have e : (arrOf st).toList = (P ++ U) ++ (Y ++ (Z ++ R)) := by rw [h.arr, hC]; simp
   have := zfA e
   rw [List.length_append, ← hi, ← hj] at this
   refine this.trans ?_
   simp
 · refine List.Perm.trans ?_ h.perm
   rw [hC]
   exact List.Perm.append_left _ (List.Perm.append_right _ (List.reverse_perm _))
theorem zh2 (O : LOrd L) {C : List Keyed} {n : Nat} {u v : Keyed} (hs : SrtL L (C.take (n + 1))) (hu : C[n]? = some u) (hv : C[n + 1]? = some v) (h : L v u = false) : SrtL L (C.take (n + 1 + 1)) := by
 rw [zaE hv]
 refine zaS hs (by simp) fun x hx y hy => ?_
 rw [List.mem_singleton.mp hy]
 rw [zaE hu] at hx hs
 rcases List.mem_append.mp hx with hx | hx
 · exact O.ntr v u x h ((List.pairwise_append.mp hs).2.2 x hx u (by simp))
 · rw [List.mem_singleton.mp hx]; exact h
theorem zeZ (O : LOrd L) (K : Asks prog w A E s κ L S) {lo n0 nrem : Nat} {st0 st : SortSt} {P X R C : List Keyed} {Q : (Option (Option Nat) × Nat) → SortSt → Prop} (hk : kindOf st0 = κ) (hP : P.length = lo) (hX : X.length = nrem) (hS : ∀ x ∈ X, S x) (h : At st0 st P X R C) (h1 : 1 ≤ n0) (h2 : n0 ≤ nrem) (srt : SrtL L (C.take n0))
 (q : ∀ n, n0 ≤ n → n ≤ nrem → SrtL L (C.take n) → (n = nrem ∨ ∃ u v, C[n - 1]? = some u ∧ C[n]? = some v ∧ L v u = true) → Q (none, n) st) :
 wpS (model prog w) A E s (forIn [n0:nrem] ((none, n0) : Option (Option Nat) × Nat) fun _ __s => do
  let __x ← ltAt' (lo + __s.2) (lo + __s.2 - 1)
  match __x with
   | some smaller => if smaller = true then pure (ForInStep.done (none, __s.2)) else pure (ForInStep.yield (none, __s.2 + 1))
   | x => pure (ForInStep.done (some none, __s.2))) Q st := by
 have lC : C.length = nrem := by rw [h.perm.length_eq, hX]
 refine wpS_mono (wpS_forRange
  (I := fun y c st' => st' = st ∧ c = (none, y) ∧ n0 ≤ y ∧ y ≤ nrem ∧ SrtL L (C.take y))
  (Q := fun c st' => st' = st ∧ ∃ n, c = (none, n) ∧ n0 ≤ n ∧ n ≤ nrem ∧ SrtL L (C.take n) ∧ (n = nrem ∨ ∃ u v, C[n - 1]? = some u ∧ C[n]? = some v ∧ L v u = true)) ?step ?fin ⟨rfl, rfl, by omega, h2, srt⟩) ?post
 case fin =>
  rintro c st' ⟨hs, rfl, a1, a2, a3⟩
  exact ⟨hs, _, rfl, a1, a2, a3, .inl (by omega)⟩
 case post =>
  rintro c st' ⟨rfl, n, rfl, a1, a2, a3, a4⟩
  exact q n a1 a2 a3 a4
 case step =>
  rintro y c st' hy1 hy2 ⟨rfl, rfl, a1, a2, a3⟩
  dsimp only
  obtain ⟨m, rfl⟩ : ∃ m, y = m + 1 := ⟨y - 1, by omega⟩
  obtain ⟨u, hu⟩ : ∃ u, C[m]? = some u := ⟨C[m]'(by omega), List.getElem?_eq_getElem _⟩
  obtain ⟨v, hv⟩ : ∃ v, C[m + 1]? = some v := ⟨C[m + 1]'(by omega), List.getElem?_eq_getElem _⟩
  have eu := h.get hu
  have ev := h.get hv
  rw [hP] at eu ev
  refine wpS_bind (zdq K (h.kind hk) ev (by rw [show lo + (m + 1) - 1 = lo + m by omega]; exact eu) (hS _ (h.perm.mem_iff.mp (List.mem_of_getElem? hv))) (hS _ (h.perm.mem_iff.mp (List.mem_of_getElem? hu))) ?_)
  dsimp only
  cases hw : L v u with
  | true =>
   rw [if_pos rfl]
   exact wpS_pure ⟨rfl, _, rfl, a1, a2, a3, .inr ⟨u, v, hu, hv, hw⟩⟩
  | false =>
   rw [if_neg (by simp)]
   exact wpS_pure ⟨rfl, rfl, by omega, by omega, zh2 O a3 hu hv hw⟩
abbrev DecL (L : Keyed → Keyed → Bool) (l : List Keyed) : Prop := l.Pairwise fun x y => L x y = false
theorem ziy (O : LOrd L) {C : List Keyed} {m : Nat} {u : Keyed} (hd : DecL L (C.take (m + 1))) (hu : C[m]? = some u) : ∀ x ∈ C.take (m + 1), L x u = false := fun x hx => by
 rw [zaE hu] at hd hx
 rcases List.mem_append.mp hx with hx | hx
 · exact (List.pairwise_append.mp hd).2.2 x hx u (by simp)
 · rw [List.mem_singleton.mp hx]; exact O.irr _
theorem zc4 {n nrem : Nat} {st0 st : SortSt} {P X R C : List Keyed} (hX : X.length = nrem) (h : At st0 st P X R C) (h2 : n ≤ nrem) (dec : DecL L (C.take n)) : SrtL L (((C.take n).reverse ++ C.drop n).take n) := by
 have lC : C.length = nrem := by rw [h.perm.length_eq, hX]
 have hl : (C.take n).reverse.length = n := by simp; omega
 have : ((C.take n).reverse ++ C.drop n).take n = (C.take n).reverse := List.take_left' hl
 rw [this]
 exact List.pairwise_reverse.mpr dec
theorem zhL (O : LOrd L) (K : Asks prog w A E s κ L S) {lo n0 nrem : Nat} {st0 st : SortSt} {P X R C0 : List Keyed} {Q : (Option (Option Nat) × Nat × Nat) → SortSt → Prop} (hk : kindOf st0 = κ) (hP : P.length = lo) (hX : X.length = nrem) (hS : ∀ x ∈ X, S x) (h : At st0 st P X R C0) (h1 : 1 ≤ n0) (h2 : n0 ≤ nrem) (dec0 : DecL L (C0.take n0))
 (q : ∀ st' C n neq, At st0 st' P X R C → 1 ≤ n → n ≤ nrem → DecL L (C.take n) → neq < n → (∀ x ∈ (C.take n).drop (n - 1 - neq), ∀ z ∈ (C.take n).drop (n - 1 - neq), L x z = false) → Q (none, n, neq) st') :
 wpS (model prog w) A E s (forIn [n0:nrem] ((none, n0, 0) : Option (Option Nat) × Nat × Nat) fun _ __s => do
  let __x ← ltAt' (lo + __s.2.1) (lo + __s.2.1 - 1)
  match __x with
   | some smaller =>
    if smaller = true then
     if __s.2.2 > 0 then do
      reverseSlice' (lo + __s.2.1 - (__s.2.2 + 1)) (lo + __s.2.1)
      pure (ForInStep.yield (none, __s.2.1 + 1, 0))
     else pure (ForInStep.yield (none, __s.2.1 + 1, 0))
    else do
     let __x ← ltAt' (lo + __s.2.1 - 1) (lo + __s.2.1)
     match __x with
      | some larger => if larger = true then pure (ForInStep.done (none, __s.2.1, __s.2.2)) else pure (ForInStep.yield (none, __s.2.1 + 1, __s.2.2 + 1))
      | x => pure (ForInStep.done (some none, __s.2.1, __s.2.2))
   | x => pure (ForInStep.done (some none, __s.2.1, __s.2.2))) Q st := by
 refine wpS_mono (wpS_forRange
  (I := fun y c st' => ∃ C neq, c = (none, y, neq) ∧ At st0 st' P X R C ∧ 1 ≤ y ∧ y ≤ nrem ∧ DecL L (C.take y) ∧ neq < y ∧ (∀ x ∈ (C.take y).drop (y - 1 - neq), ∀ z ∈ (C.take y).drop (y - 1 - neq), L x z = false))
  (Q := fun c st' => ∃ C n neq, c = (none, n, neq) ∧ At st0 st' P X R C ∧ 1 ≤ n ∧ n ≤ nrem ∧ DecL L (C.take n) ∧ neq < n ∧ (∀ x ∈ (C.take n).drop (n - 1 - neq), ∀ z ∈ (C.take n).drop (n - 1 - neq), L x z = false)) ?step ?fin ⟨C0, 0, rfl, h, h1, h2, dec0, by omega, ?init⟩) ?post
 case init =>
  intro x hx z hz
  obtain ⟨m, rfl⟩ : ∃ m, n0 = m + 1 := ⟨n0 - 1, by omega⟩
  have lC : C0.length = nrem := by rw [h.perm.length_eq, hX]
  obtain ⟨u, hu⟩ : ∃ u, C0[m]? = some u := ⟨C0[m]'(by omega), List.getElem?_eq_getElem _⟩
  rw [show m + 1 - 1 - 0 = m by omega, zct hu] at hx hz
  rw [List.mem_singleton.mp hx, List.mem_singleton.mp hz]
  exact O.irr _
 case fin =>
  rintro c st' ⟨C, neq, rfl, a1, a2, a3, a4, a5, a6⟩
  exact ⟨C, _, neq, rfl, a1, a2, a3, a4, a5, a6⟩
 case post =>
  rintro c st' ⟨C, n, neq, rfl, a1, a2, a3, a4, a5, a6⟩
  exact q st' C n neq a1 a2 a3 a4 a5 a6
 case step =>
  rintro y c st' hy1 hy2 ⟨C, neq, rfl, a1, a2, a3, a4, a5, a6⟩
  dsimp only
  have lC : C.length = nrem := by rw [a1.perm.length_eq, hX]
  obtain ⟨m, rfl⟩ : ∃ m, y = m + 1 := ⟨y - 1, by omega⟩
  obtain ⟨u, hu⟩ : ∃ u, C[m]? = some u := ⟨C[m]'(by omega), List.getElem?_eq_getElem _⟩
  obtain ⟨v, hv⟩ : ∃ v, C[m + 1]? = some v := ⟨C[m + 1]'(by omega), List.getElem?_eq_getElem _⟩
  have eu := a1.get hu
  have ev := a1.get hv
  rw [hP] at eu ev
  have Su := hS _ (a1.perm.mem_iff.mp (List.mem_of_getElem? hu))
  have Sv := hS _ (a1.perm.mem_iff.mp (List.mem_of_getElem? hv))
  have eu' : (arrOf st')[lo + (m + 1) - 1]? = some u := by rw [show lo + (m + 1) - 1 = lo + m by omega]; exact eu
  have xu := ziy O a4 hu
  refine wpS_bind (zdq K (a1.kind hk) ev eu' Sv Su ?_)
  dsimp only
  have snoc : ∀ {D : List Keyed}, DecL L D → (∀ x ∈ D, L x v = false) → DecL L (D ++ [v]) := fun {D} hD hx => List.pairwise_append.mpr ⟨hD, by simp, fun x hx' z hz => by rw [List.mem_singleton.mp hz]; exact hx x hx'⟩
  have one : ∀ {D : List Keyed}, (D ++ [v]).length = m + 1 + 1 → ∀ x ∈ (D ++ [v]).drop (m + 1 + 1 - 1 - 0), ∀ z ∈ (D ++ [v]).drop (m + 1 + 1 - 1 - 0), L x z = false := fun {D} hD x hx z hz => by
   have hD' : D.length = m + 1 := by simpa using hD
   rw [show m + 1 + 1 - 1 - 0 = D.length by omega, List.drop_left] at hx hz
   rw [List.mem_singleton.mp hx, List.mem_singleton.mp hz]
   exact O.irr _
  cases hw : L v u with
  | true =>
   rw [if_pos rfl]
   have xv : ∀ x ∈ C.take (m + 1), L x v = false := fun x hx => O.ntr x u v (xu x hx) (O.asym _ _ hw)
   by_cases hq : neq > 0
   · rw [if_pos hq]
     have eC : C = C.take (m + 1 - 1 - neq) ++ ((C.take (m + 1)).drop (m + 1 - 1 - neq) ++ C.drop (m + 1)) := by
      have e2 : C.take (m + 1) = C.take (m + 1 - 1 - neq) ++ (C.take (m + 1)).drop (m + 1 - 1 - neq) := by
       have := List.take_append_drop (m + 1 - 1 - neq) (C.take (m + 1))
       rw [List.take_take, Nat.min_eq_left (by omega)] at this
       exact this.symm
      rw [← List.append_assoc, ← e2, List.take_append_drop]
     have e2 : C.take (m + 1) = C.take (m + 1 - 1 - neq) ++ (C.take (m + 1)).drop (m + 1 - 1 - neq) := by
      have := List.take_append_drop (m + 1 - 1 - neq) (C.take (m + 1))
      rw [List.take_take, Nat.min_eq_left (by omega)] at this
      exact this.symm
     have e3 : C.drop (m + 1) = v :: C.drop (m + 1 + 1) := by
      obtain ⟨z1, z2⟩ := List.getElem?_eq_some_iff.mp hv
      rw [List.drop_eq_getElem_cons z1, z2]
     refine wpS_bind (a1.rev eC (by rw [hP, List.length_take]; omega) (by rw [List.length_drop, List.length_take]; omega) fun st2 b1 => ?_)
     generalize hU : C.take (m + 1 - 1 - neq) = U at *
     generalize hY : (C.take (m + 1)).drop (m + 1 - 1 - neq) = Y at *
     have lUY : U.length + Y.length = m + 1 := by have := congrArg List.length e2; rw [List.length_take, List.length_append] at this; omega
     have eT : (U ++ (Y.reverse ++ C.drop (m + 1))).take (m + 1 + 1) = (U ++ Y.reverse) ++ [v] := by
      rw [e3, show U ++ (Y.reverse ++ (v :: C.drop (m + 1 + 1))) = ((U ++ Y.reverse) ++ [v]) ++ C.drop (m + 1 + 1) by simp, show m + 1 + 1 = ((U ++ Y.reverse) ++ [v]).length by simp; omega, List.take_left]
     have dUY : DecL L (U ++ Y) := by rw [← e2]; exact a4
     have dR : DecL L (U ++ Y.reverse) := by
      refine List.pairwise_append.mpr ⟨(List.pairwise_append.mp dUY).1, ?_, fun x hx z hz => (List.pairwise_append.mp dUY).2.2 x hx z (List.mem_reverse.mp hz)⟩
      refine List.pairwise_reverse.mpr ?_
      exact List.Pairwise.imp_of_mem (R := fun _ _ => True) (fun {x z} hx hz _ => a6 z hz x hx) (List.pairwise_of_forall fun _ _ => trivial)
     refine wpS_pure ⟨_, 0, rfl, b1, by omega, by omega, ?_, by omega, ?_⟩
     · rw [eT]
       refine snoc dR fun x hx => xv x ?_
       rw [e2]
       rcases List.mem_append.mp hx with hx | hx
       · exact List.mem_append_left _ hx
       · exact List.mem_append_right _ (List.mem_reverse.mp hx)
     · rw [eT]
       exact one (by simp; omega)
   · rw [if_neg hq]
     refine wpS_pure ⟨C, 0, rfl, a1, by omega, by omega, ?_, by omega, ?_⟩
     · rw [zaE hv]; exact snoc a4 xv
     · rw [zaE hv]; exact one (by simp; omega)
  | false =>
   rw [if_neg (by simp)]
   refine wpS_bind (zdq K (a1.kind hk) eu' ev Su Sv ?_)
   dsimp only
   cases hw2 : L u v with
   | true =>
    rw [if_pos rfl]
    exact wpS_pure ⟨C, _, neq, rfl, a1, a2, a3, a4, a5, a6⟩
   | false =>
    rw [if_neg (by simp)]
    have um : u ∈ (C.take (m + 1)).drop (m + 1 - 1 - neq) := by
     rw [zaE hu, List.drop_append_of_le_length (by rw [List.length_take]; omega)]
     simp
    refine wpS_pure ⟨C, _, rfl, a1, by omega, by omega, ?_, by omega, ?_⟩
    · rw [zaE hv]; exact snoc a4 fun x hx => O.ntr x u v (xu x hx) hw2
    · rw [zaE hv, show m + 1 + 1 - 1 - (neq + 1) = m + 1 - 1 - neq by omega, List.drop_append_of_le_length (by rw [List.length_take]; omega)]
      intro x hx z hz
      rcases List.mem_append.mp hx with hx | hx <;> rcases List.mem_append.mp hz with hz | hz
      · exact a6 x hx z hz
      · rw [List.mem_singleton.mp hz]; exact O.ntr x u v (a6 x hx u um) hw2
      · rw [List.mem_singleton.mp hx]; exact O.ntr v u z hw (a6 u um z hz)
      · rw [List.mem_singleton.mp hx, List.mem_singleton.mp hz]; exact O.irr _
theorem ziR {lo n nrem neq : Nat} {st0 st : SortSt} {P X R C : List Keyed} {Q : Unit → SortSt → Prop} (hP : P.length = lo) (hX : X.length = nrem) (h : At st0 st P X R C) (h2 : n ≤ nrem) (dec : DecL L (C.take n)) (hq : neq < n) (a6 : ∀ x ∈ (C.take n).drop (n - 1 - neq), ∀ z ∈ (C.take n).drop (n - 1 - neq), L x z = false)
 (q : ∀ st' C', At st0 st' P X R C' → DecL L (C'.take n) → Q () st') : wpS (model prog w) A E s (reverseSlice' (lo + n - (neq + 1)) (lo + n)) Q st := by
 have lC : C.length = nrem := by rw [h.perm.length_eq, hX]
 have e2 : C.take n = C.take (n - 1 - neq) ++ (C.take n).drop (n - 1 - neq) := by
  have := List.take_append_drop (n - 1 - neq) (C.take n)
  rw [List.take_take, Nat.min_eq_left (by omega)] at this
  exact this.symm
 have eC : C = C.take (n - 1 - neq) ++ ((C.take n).drop (n - 1 - neq) ++ C.drop n) := by rw [← List.append_assoc, ← e2, List.take_append_drop]
 refine h.rev eC (by rw [hP, List.length_take]; omega) (by rw [List.length_drop, List.length_take]; omega) fun st2 b1 => ?_
 refine q st2 _ b1 ?_
 generalize hU : C.take (n - 1 - neq) = U at *
 generalize hY : (C.take n).drop (n - 1 - neq) = Y at *
 have lUY : U.length + Y.length = n := by have := congrArg List.length e2; rw [List.length_take, List.length_append] at this; omega
 rw [← List.append_assoc, List.take_left' (by simp; omega)]
 have dUY : DecL L (U ++ Y) := by rw [← e2]; exact dec
 refine List.pairwise_append.mpr ⟨(List.pairwise_append.mp dUY).1, ?_, fun x hx z hz => (List.pairwise_append.mp dUY).2.2 x hx z (List.mem_reverse.mp hz)⟩
 refine List.pairwise_reverse.mpr ?_
 exact List.Pairwise.imp_of_mem (R := fun _ _ => True) (fun {x z} hx hz _ => a6 z hz x hx) (List.pairwise_of_forall fun _ _ => trivial)
theorem zfK (O : LOrd L) (K : Asks prog w A E s κ L S) {lo nrem : Nat} {st : SortSt} {P X R : List Keyed} {Q : Option Nat → SortSt → Prop} (hk : kindOf st = κ) (ha : (arrOf st).toList = P ++ (X ++ R)) (hP : P.length = lo) (hX : X.length = nrem) (hn : 1 ≤ nrem) (hS : ∀ x ∈ X, S x)
 (q : ∀ st' C n, At st st' P X R C → 1 ≤ n → n ≤ nrem → SrtL L (C.take n) → Q (some n) st') : wpS (model prog w) A E s (countRun' lo nrem) Q st := by
 rw [zeg]
 dsimp only
 have A0 : At st st P X R X := ⟨⟨_, rfl⟩, ha, List.Perm.refl _⟩
 refine wpS_bind (zeZ O K hk hP hX hS A0 (Nat.le_refl _) hn (by cases X <;> simp) fun n h1 h2 srt cs => ?_)
 dsimp only
 by_cases hE : n = nrem
 · rw [if_pos (by simpa using hE)]
   exact wpS_pure (q st X n A0 h1 h2 srt)
 rw [if_neg (by simpa using hE)]
 obtain ⟨u, v, hu, hv, hw⟩ : ∃ u v, X[n - 1]? = some u ∧ X[n]? = some v ∧ L v u = true := by
  rcases cs with z | z
  · exact absurd z hE
  · exact z
 obtain ⟨m, rfl⟩ : ∃ m, n = m + 1 := ⟨n - 1, by omega⟩
 rw [Nat.add_sub_cancel] at hu
 by_cases hn1 : m + 1 > 1
 · rw [if_pos hn1]
   obtain ⟨x0, hx0⟩ : ∃ x0, X[0]? = some x0 := ⟨X[0]'(by omega), List.getElem?_eq_getElem _⟩
   have e0 := A0.get hx0
   have eu := A0.get hu
   rw [hP] at e0 eu
   refine wpS_bind (zdq K hk e0 (by rw [show lo + (m + 1) - 1 = lo + m by omega]; exact eu) (hS _ (List.mem_of_getElem? hx0)) (hS _ (List.mem_of_getElem? hu)) ?_)
   dsimp only
   cases hr : L x0 u with
   | true =>
    rw [if_pos rfl]
    exact wpS_pure (q st X (m + 1) A0 h1 h2 srt)
   | false =>
    rw [if_neg (by simp)]
    refine wpS_bind (A0.rev (U := []) (Y := X.take (m + 1)) (Z := X.drop (m + 1)) (by simp) (by simp [hP]) (by rw [List.length_take]; omega) fun st1 A1 => ?_)
    rw [List.nil_append] at A1
    refine wpS_bind (zco ?_)
    have e3 : X.drop (m + 1) = v :: X.drop (m + 1 + 1) := by
     obtain ⟨z1, z2⟩ := List.getElem?_eq_some_iff.mp hv
     rw [List.drop_eq_getElem_cons z1, z2]
    have dec0 : DecL L (((X.take (m + 1)).reverse ++ X.drop (m + 1)).take (m + 1 + 1)) := by
     rw [e3, show (X.take (m + 1)).reverse ++ (v :: X.drop (m + 1 + 1)) = ((X.take (m + 1)).reverse ++ [v]) ++ X.drop (m + 1 + 1) by simp, List.take_left' (by simp; omega)]
     refine List.pairwise_append.mpr ⟨List.pairwise_reverse.mpr srt, by simp, fun x hx z hz => ?_⟩
     rw [List.mem_singleton.mp hz]
     have hx := List.mem_reverse.mp hx
     have ge0 : L x x0 = false := by
      have hd : (X.take (m + 1))[0]? = some x0 := by rw [List.getElem?_take, if_pos (by omega)]; exact hx0
      exact zbN O srt hd x (by rw [List.drop_zero]; exact hx)
     exact O.ntr x x0 v ge0 (O.ntr x0 u v hr (O.asym _ _ hw))
    refine wpS_bind (zhL O K hk hP hX hS A1 (by omega) (by omega) dec0 fun st2 C n neq b1 b2 b3 b4 b5 b6 => ?_)
    dsimp only
    by_cases hq : neq > 0
    · rw [if_pos hq]
      refine wpS_bind (ziR (L := L) hP hX b1 b3 b4 b5 b6 fun st3 C' c1 c2 => ?_)
      have lCt : C'.length = nrem := by rw [c1.perm.length_eq, hX]
      refine wpS_bind (c1.rev (U := []) (Y := C'.take n) (Z := C'.drop n) (by simp) (by simp [hP]) (by rw [List.length_take]; omega) fun st4 h4 => ?_)
      rw [List.nil_append] at h4
      refine wpS_bind (zeZ O K hk hP hX hS h4 b2 b3 (zc4 hX c1 b3 c2) fun n' a1 a2 a3 _ => ?_)
      dsimp only
      exact wpS_pure (q _ _ n' h4 (by omega) a2 a3)
    · rw [if_neg hq]
      have lCt : C.length = nrem := by rw [b1.perm.length_eq, hX]
      refine wpS_bind (b1.rev (U := []) (Y := C.take n) (Z := C.drop n) (by simp) (by simp [hP]) (by rw [List.length_take]; omega) fun st4 h4 => ?_)
      rw [List.nil_append] at h4
      refine wpS_bind (zeZ O K hk hP hX hS h4 b2 b3 (zc4 hX b1 b3 b4) fun n' a1 a2 a3 _ => ?_)
      dsimp only
      exact wpS_pure (q _ _ n' h4 (by omega) a2 a3)
 · rw [if_neg hn1]
   obtain rfl : m = 0 := by omega
   refine wpS_bind (zco ?_)
   have dec0 : DecL L (X.take (0 + 1 + 1)) := by
    rw [zaE hv, zaE hu, List.take_zero]
    simp
    exact O.asym _ _ hw
   refine wpS_bind (zhL O K hk hP hX hS A0 (by omega) (by omega) dec0 fun st2 C n neq b1 b2 b3 b4 b5 b6 => ?_)
   dsimp only
   by_cases hq : neq > 0
   · rw [if_pos hq]
     refine wpS_bind (ziR (L := L) hP hX b1 b3 b4 b5 b6 fun st3 C' c1 c2 => ?_)
     have lCt : C'.length = nrem := by rw [c1.perm.length_eq, hX]
     refine wpS_bind (c1.rev (U := []) (Y := C'.take n) (Z := C'.drop n) (by simp) (by simp [hP]) (by rw [List.length_take]; omega) fun st4 h4 => ?_)
     rw [List.nil_append] at h4
     refine wpS_bind (zeZ O K hk hP hX hS h4 b2 b3 (zc4 hX c1 b3 c2) fun n' a1 a2 a3 _ => ?_)
     dsimp only
     exact wpS_pure (q _ _ n' h4 (by omega) a2 a3)
   · rw [if_neg hq]
     have lCt : C.length = nrem := by rw [b1.perm.length_eq, hX]
     refine wpS_bind (b1.rev (U := []) (Y := C.take n) (Z := C.drop n) (by simp) (by simp [hP]) (by rw [List.length_take]; omega) fun st4 h4 => ?_)
     rw [List.nil_append] at h4
     refine wpS_bind (zeZ O K hk hP hX hS h4 b2 b3 (zc4 hX b1 b3 b4) fun n' a1 a2 a3 _ => ?_)
     dsimp only
     exact wpS_pure (q _ _ n' h4 (by omega) a2 a3)
end
abbrev Run := List Keyed × Nat
def flat (rs : List Run) : List Keyed := (rs.map (·.1)).flatten
def pend : Nat → List Run → List (Nat × Nat × Nat)
 | _, [] => []
 | off, (r, p) :: rs => (off, r.length, p) :: pend (off + r.length) rs
theorem zaz (a b : List Run) : flat (a ++ b) = flat a ++ flat b := by unfold flat; simp
theorem zap (r : Run) (b : List Run) : flat (r :: b) = r.1 ++ flat b := by unfold flat; simp
theorem zcf : ∀ (a b : List Run) (off : Nat), pend off (a ++ b) = pend off a ++ pend (off + (flat a).length) b
 | [], b, off => by simp [pend, flat]
 | (r, p) :: a, b, off => by
  rw [List.cons_append, pend, pend, zcf a b, zap, List.length_append, List.cons_append, Nat.add_assoc]
theorem zbg : ∀ (a : List Run) (off : Nat), (pend off a).length = a.length
 | [], _ => rfl
 | (r, p) :: a, off => by rw [pend, List.length_cons, List.length_cons, zbg]
section
variable {prog : Program} {w : World} {A : Around} {E : Value → Shared → Prop} {s : Shared} {κ : SortKind} {L : Keyed → Keyed → Bool} {S : Keyed → Prop}
structure Runs (L : Keyed → Keyed → Bool) (κ : SortKind) (X : List Keyed) (st : SortSt) (rs : List Run) (rest : List Keyed) : Prop where
 kind : kindOf st = κ
 failed : failedOf st = none
 pend : (pendingOf st).toList = pend 0 rs
 arr : (arrOf st).toList = flat rs ++ rest
 perm : (flat rs ++ rest).Perm X
 ok : ∀ r ∈ rs, r.1 ≠ [] ∧ SrtL L r.1
theorem zb0 (O : LOrd L) (K : Asks prog w A E s κ L S) {X rest : List Keyed} {st : SortSt} {a b : List Run} {x y : Run} {Q : Bool → SortSt → Prop} (hS : ∀ x ∈ X, S x) (h : Runs L κ X st (a ++ x :: y :: b) rest)
 (q : ∀ st' c, Runs L κ X st' (a ++ (c, x.2) :: b) rest → Q true st') : wpS (model prog w) A E s (mergeAt' a.length) Q st := by
 have hp : (pendingOf st).toList = pend 0 a ++ ((flat a).length, x.1.length, x.2) :: ((flat a).length + x.1.length, y.1.length, y.2) :: pend ((flat a).length + x.1.length + y.1.length) b := by
  rw [h.pend, zcf, Nat.zero_add]
  rfl
 have ha : (arrOf st).toList = flat a ++ (x.1 ++ (y.1 ++ (flat b ++ rest))) := by
  rw [h.arr, zaz, zap, zap]
  simp
 have lp := zbg a 0
 obtain ⟨nx, sx⟩ := h.ok x (by simp)
 obtain ⟨ny, sy⟩ := h.ok y (by simp)
 have hm : ∀ z, z ∈ x.1 ∨ z ∈ y.1 → S z := fun z hz => hS z (h.perm.mem_iff.mp (by
  rw [zaz, zap, zap]
  rcases hz with hz | hz <;> simp [hz]))
 refine zgA O K (P := flat a) (Ra := x.1) (Rb := y.1) (R := flat b ++ rest) (pw := x.2) (pw2 := y.2) h.kind h.failed ha ?_ ?_ nx ny sx sy (fun z hz => hm z (.inl hz)) (fun z hz => hm z (.inr hz)) fun st' C h1 h2 h3 h4 h5 h6 => ?_
 · rw [← Array.getElem?_toList, hp, ← lp, List.getElem?_append_right (Nat.le_refl _)]
   simp
 · rw [← Array.getElem?_toList, hp, ← lp, List.getElem?_append_right (by omega)]
   simp
 · have lC : C.length = x.1.length + y.1.length := by rw [h5.length_eq, List.length_append]
   refine q st' C ⟨h1, h2, ?_, ?_, ?_, fun r hr => ?_⟩
   · rw [h3, Array.toList_eraseIdxIfInBounds, Array.toList_setIfInBounds, hp, zcf, pend, Nat.zero_add, ← lp]
     rw [List.set_append_right _ _ (Nat.le_refl _), Nat.sub_self, List.set_cons_zero, List.eraseIdx_append_of_length_le (by omega)]
     rw [show (pend 0 a).length + 1 - (pend 0 a).length = 1 by omega, lC]
     simp [Nat.add_assoc]
   · rw [h4, zaz, zap]
     simp
   · refine List.Perm.trans ?_ h.perm
     rw [zaz, zaz, zap, zap, zap]
     simp only [List.append_assoc]
     refine List.Perm.append_left _ ?_
     rw [← List.append_assoc x.1]
     exact List.Perm.append_right _ h5
   · rcases List.mem_append.mp hr with hr | hr
     · exact h.ok r (by simp [hr])
     · rcases List.mem_cons.mp hr with rfl | hr
       · refine ⟨fun z => ?_, h6⟩
         have z : C = [] := z
         rw [z] at lC
         have := List.length_pos_iff.mpr nx
         simp at lC
         omega
       · exact h.ok r (by simp [hr])
theorem zf3 {α : Type} (f : α → α) (t : α) : ∀ p : List α, (p ++ [t]).modify p.length f = p ++ [f t]
 | [] => rfl
 | a :: p => by
  show a :: (p ++ [t]).modify p.length f = a :: (p ++ [f t])
  rw [zf3 f t p]
theorem Runs.push {X rest' r : List Keyed} {st : SortSt} {rs : List Run} (h : Runs L κ X st rs (r ++ rest')) (hr : r ≠ []) (sr : SrtL L r) {lo n : Nat} (hlo : lo = (flat rs).length) (hn : n = r.length) : Runs L κ X (setPending st ((pendingOf st).push (lo, n, 0))) (rs ++ [(r, 0)]) rest' := by
 subst hlo hn
 refine ⟨h.kind, h.failed, ?_, ?_, ?_, fun x hx => ?_⟩
 · show ((pendingOf st).push _).toList = _
   rw [Array.toList_push, h.pend, zcf, Nat.zero_add]
   rfl
 · show (arrOf st).toList = _
   rw [h.arr, zaz, zap]
   simp [flat]
 · have := h.perm
   rw [zaz, zap]
   simpa [flat] using this
 · rcases List.mem_append.mp hx with hx | hx
   · exact h.ok x hx
   · rw [List.mem_singleton.mp hx]; exact ⟨hr, sr⟩
theorem Runs.power {X rest : List Keyed} {st : SortSt} {a : List Run} {x : Run} (h : Runs L κ X st (a ++ [x]) rest) (pw : Nat) : Runs L κ X (setPending st ((pendingOf st).modify ((pendingOf st).size - 1) fun t => (t.1, t.2.1, pw))) (a ++ [(x.1, pw)]) rest := by
 have lp : (pendingOf st).size = a.length + 1 := by
  have := congrArg List.length h.pend
  rw [zbg] at this
  simpa using this
 have fl : flat (a ++ [(x.1, pw)]) = flat (a ++ [x]) := by rw [zaz, zaz, zap, zap]
 refine ⟨h.kind, h.failed, ?_, ?_, ?_, fun y hy => ?_⟩
 · show ((pendingOf st).modify _ _).toList = _
   rw [Array.toList_modify, h.pend, lp, zcf, zcf, Nat.add_sub_cancel]
   have := zbg a 0
   rw [← this]
   exact zf3 _ _ _
 · show (arrOf st).toList = _
   rw [h.arr, fl]
 · rw [fl]; exact h.perm
 · rcases List.mem_append.mp hy with hy | hy
   · exact h.ok y (by simp [hy])
   · rw [List.mem_singleton.mp hy]; exact h.ok x (by simp)
theorem zh5 {X rest : List Keyed} {st : SortSt} {rs : List Run} (h : Runs L κ X st rs rest) : rs.length ≤ (flat rs).length := by
 have go : ∀ l : List Run, (∀ r ∈ l, r.1 ≠ []) → l.length ≤ (flat l).length := by
  intro l
  induction l with
  | nil => intro _; exact Nat.zero_le _
  | cons r l ih =>
   intro hr
   have h1 := ih fun x hx => hr x (List.mem_cons_of_mem _ hx)
   have h2 := List.length_pos_iff.mpr (hr r (by simp))
   rw [zap, List.length_append, List.length_cons]
   omega
 exact go rs fun r hr => (h.ok r hr).1
theorem zc8 {l : List Run} {j : Nat} (h : j + 2 ≤ l.length) : ∃ a x y b, l = a ++ x :: y :: b ∧ a.length = j := by
 refine ⟨l.take j, l[j]'(by omega), l[j + 1]'(by omega), l.drop (j + 2), ?_, by rw [List.length_take]; omega⟩
 rw [← List.drop_eq_getElem_cons (by omega), ← List.drop_eq_getElem_cons (by omega), List.take_append_drop]
theorem zfc (O : LOrd L) (K : Asks prog w A E s κ L S) {X : List Keyed} {st : SortSt} {Q : Unit → SortSt → Prop} (hk : kindOf st = κ) (hf : failedOf st = none) (hp : pendingOf st = #[]) (hX : (arrOf st).toList = X) (hS : ∀ x ∈ X, S x)
 (q : ∀ st', failedOf st' = none → (arrOf st').toList.Perm X → SrtL L (arrOf st').toList → Q () st') : wpS (model prog w) A E s sortRuns' Q st := by
 rw [sortRuns'_eq]
 refine wpS_bind (wpS_get ?_)
 dsimp only
 have hN : (arrOf st).size = X.length := by rw [← hX]; simp
 have R0 : Runs L κ X st [] X := ⟨hk, hf, by rw [hp]; rfl, by rw [hX]; rfl, List.Perm.refl _, fun r hr => by simp at hr⟩
 refine wpS_bind (wpS_mono (wpS_forRange
  (I := fun y c st' => ∃ rs rest, c = (none, (flat rs).length) ∧ Runs L κ X st' rs rest ∧ (y ≤ (flat rs).length ∨ rest = []))
  (Q := fun c st' => ∃ rs, c = (none, (flat rs).length) ∧ Runs L κ X st' rs []) ?step ?fin ⟨[], X, rfl, R0, .inl (Nat.zero_le _)⟩) ?post)
 case fin =>
  rintro c st' ⟨rs, rest, rfl, h, h2⟩
  have e := h.perm.length_eq
  rw [List.length_append] at e
  have : rest = [] := by
   rcases h2 with z | z
   · exact List.length_eq_zero_iff.mp (by omega)
   · exact z
  subst this
  exact ⟨rs, rfl, h⟩
 case post =>
  rintro c st' ⟨rs, rfl, h⟩
  dsimp only
  have e := h.perm.length_eq
  rw [List.append_nil] at e
  refine wpS_bind (wpS_mono (wpS_forRange
   (I := fun y c st'' => c = (none, ()) ∧ ∃ rs', Runs L κ X st'' rs' [] ∧ (rs'.length + y ≤ X.length ∨ rs'.length ≤ 1))
   (Q := fun c st'' => c = (none, ()) ∧ ∃ rs', Runs L κ X st'' rs' [] ∧ rs'.length ≤ 1) ?step2 ?fin2 ⟨rfl, rs, h, .inl (by have := zh5 h; omega)⟩) ?post2)
  case fin2 =>
   rintro c st'' ⟨rfl, rs', h', h2⟩
   refine ⟨rfl, rs', h', ?_⟩
   rcases h2 with z | z <;> omega
  case post2 =>
   rintro c st'' ⟨rfl, rs', h', h2⟩
   dsimp only
   refine wpS_pure (q st'' h'.failed ?_ ?_)
   · rw [h'.arr]; exact h'.perm
   · rw [h'.arr, List.append_nil]
     match rs', h2, h' with
     | [], _, _ => simp [flat]
     | [r], _, h' => rw [zap]; simp only [flat, List.map_nil, List.flatten_nil, List.append_nil]; exact (h'.ok r (by simp)).2
  case step2 =>
   rintro y c st'' _ hy ⟨rfl, rs', h', h2⟩
   refine wpS_bind (wpS_get ?_)
   have pl : (pendingOf st'').size = rs'.length := by
    have := congrArg List.length h'.pend
    rw [zbg] at this
    simpa using this
   by_cases h3 : (pendingOf st'').size ≤ 1
   · rw [if_pos h3]
     exact wpS_pure ⟨rfl, rs', h', by omega⟩
   · rw [if_neg h3]
     have gen : ∀ j, j + 2 ≤ rs'.length → ∀ Q' : Bool → SortSt → Prop, (∀ st4 rs4, Runs L κ X st4 rs4 [] → rs4.length + 1 = rs'.length → Q' true st4) → wpS (model prog w) A E s (mergeAt' j) Q' st'' := fun j hj Q' q' => by
      obtain ⟨aa, x1, x2, bb, e1, e2⟩ := zc8 hj
      rw [← e2]
      rw [e1] at h'
      refine zb0 O K hS h' fun st4 c4 R4 => q' st4 _ R4 ?_
      rw [e1]
      simp only [List.length_append, List.length_cons]
      omega
     refine wpS_bind (gen _ ?_ _ fun st4 rs4 R4 l4 => ?_)
     · have any : ∀ (c : Prop) [Decidable c], (if c then (pendingOf st'').size - 2 - 1 else (pendingOf st'').size - 2) + 2 ≤ rs'.length := fun c _ => by split <;> omega
       exact any _
     · rw [if_neg (by simp)]
       exact wpS_pure ⟨rfl, rs4, R4, by omega⟩
 case step =>
  rintro y c st' _ hy ⟨rs, rest, rfl, h, h2⟩
  dsimp only
  have e := h.perm.length_eq
  rw [List.length_append] at e
  by_cases h3 : (flat rs).length ≥ (arrOf st).size
  · rw [if_pos h3]
    have : rest = [] := List.length_eq_zero_iff.mp (by omega)
    subst this
    exact wpS_pure ⟨rs, rfl, h⟩
  rw [if_neg h3]
  have hy2 : y ≤ (flat rs).length := by
   rcases h2 with z | z
   · exact z
   · rw [z] at e; simp at e; omega
  have hSr : ∀ x ∈ rest, S x := fun x hx => hS x (h.perm.mem_iff.mp (List.mem_append_right _ hx))
  refine wpS_bind (zfK O K h.kind (P := flat rs) (X := rest) (R := []) (by rw [h.arr]; simp) rfl (by omega) (by omega) hSr fun st1 C n A1 n1 n2 srt => ?_)
  dsimp only
  have lC : C.length = rest.length := A1.perm.length_eq
  have a1 : (arrOf st1).toList = flat rs ++ C := by rw [A1.arr]; simp
  have R1 : Runs L κ X st1 rs C := by
   obtain ⟨xs, hxs⟩ := A1.same
   subst hxs
   exact ⟨h.kind, h.failed, h.pend, a1, (List.Perm.append_left _ A1.perm).trans h.perm, h.ok⟩
  by_cases hm : n < minRun' (arrOf st).size (arrOf st).size 0
  · rw [if_pos hm]
    refine wpS_bind (zco ?_)
    generalize hfo : min ((arrOf st).size - (flat rs).length) (minRun' (arrOf st).size (arrOf st).size 0) = force
    have f1 : force ≤ rest.length := by omega
    have f2 : n ≤ force := by omega
    have ltf : (C.take force).length = force := by rw [List.length_take]; omega
    refine wpS_bind (zel O K R1.kind (P := flat rs) (X := C.take force) (R := C.drop force) (by rw [List.take_append_drop]; exact a1) rfl ltf (by omega) f2 (by rw [List.take_take, Nat.min_eq_left f2]; exact srt) (fun x hx => hSr x (A1.perm.mem_iff.mp (List.mem_of_mem_take hx))) fun st2 D s2 a2 p2 sD => ?_)
    rw [if_neg (by simp)]
    have lD : D.length = force := by rw [p2.length_eq, ltf]
    have RR : Runs L κ X st2 rs (D ++ C.drop force) := by
     obtain ⟨xs, hxs⟩ := s2
     subst hxs
     refine ⟨R1.kind, R1.failed, R1.pend, a2, List.Perm.trans (List.Perm.append_left _ ?_) R1.perm, R1.ok⟩
     conv => rhs; rw [← List.take_append_drop force C]
     exact List.Perm.append_right _ p2
    have Dne : D ≠ [] := fun z => by rw [z] at lD; simp at lD; omega
    refine wpS_bind (wpS_get ?_)
    have lo2 : rs = [] ∨ ∃ a x, rs = a ++ [x] := by
     rcases List.eq_nil_or_concat rs with z | ⟨a, x, z⟩
     · exact .inl z
     · exact .inr ⟨a, x, by rw [z]; simp⟩
    have pl : (pendingOf st2).size = rs.length := by
     have := congrArg List.length RR.pend
     rw [zbg] at this
     simpa using this
    rcases lo2 with hrs | ⟨a, x, hrs⟩
    · have e0 : (pendingOf st2).back? = none := by
       have : (pendingOf st2) = #[] := Array.eq_empty_of_size_eq_zero (by rw [pl, hrs]; rfl)
       rw [this]; rfl
      rw [e0]
      dsimp only
      refine wpS_bind (wpS_modify (wpS_pure ?_))
      refine ⟨rs ++ [(D, 0)], (C.drop force), ?_, RR.push Dne sD rfl lD.symm, .inl ?_⟩
      · rw [zaz, zap, List.length_append, List.length_append, lD]; simp [flat]
      · rw [zaz, zap, List.length_append, List.length_append, lD]; omega
    · obtain ⟨⟨t1, t2, t3⟩, e0⟩ : ∃ t, (pendingOf st2).back? = some t := by
       rw [Array.back?_eq_getElem?]
       exact ⟨_, Array.getElem?_eq_getElem (by rw [pl, hrs]; simp)⟩
      rw [e0]
      dsimp only
      refine wpS_bind (wpS_mono (wpS_forRange
       (I := fun z c st'' => c = (none, ()) ∧ ∃ rs', rs' ≠ [] ∧ Runs L κ X st'' rs' (D ++ (C.drop force)) ∧ (flat rs').length = (flat rs).length)
       (Q := fun c st'' => c = (none, ()) ∧ ∃ rs', rs' ≠ [] ∧ Runs L κ X st'' rs' (D ++ (C.drop force)) ∧ (flat rs').length = (flat rs).length) ?_ (fun c st'' h => h) ⟨rfl, rs, by rw [hrs]; simp, RR, rfl⟩) ?_)
      · rintro z c st'' _ _ ⟨rfl, rs', r1, r2, r3⟩
        refine wpS_bind (wpS_get ?_)
        have pl' : (pendingOf st'').size = rs'.length := by
         have := congrArg List.length r2.pend
         rw [zbg] at this
         simpa using this
        by_cases h2 : (pendingOf st'').size > 1
        · rw [if_pos h2]
          obtain ⟨⟨o1, o2, older⟩, eo⟩ : ∃ t, (pendingOf st'')[(pendingOf st'').size - 2]? = some t := ⟨_, Array.getElem?_eq_getElem (by omega)⟩
          rw [eo]
          dsimp only
          split
          · exact wpS_pure ⟨rfl, rs', r1, r2, r3⟩
          · obtain ⟨aa, x1, x2, bb, e1, e2⟩ := zc8 (l := rs') (j := (pendingOf st'').size - 2) (by omega)
            rw [← e2]
            rw [e1] at r2 r3
            refine wpS_bind (zb0 O K hS r2 fun st4 c4 R4 => ?_)
            rw [if_neg (by simp)]
            refine wpS_pure ⟨rfl, _, by simp, R4, ?_⟩
            have w1 := congrArg List.length R4.arr
            have w2 := R4.perm.length_eq
            have w3 := r2.perm.length_eq
            rw [List.length_append] at w2 w3
            omega
        · rw [if_neg h2]
          exact wpS_pure ⟨rfl, rs', r1, r2, r3⟩
      · rintro c st'' ⟨rfl, rs', r1, r2, r3⟩
        dsimp only
        obtain ⟨a', x', hrs'⟩ : ∃ a x, rs' = a ++ [x] := by
         rcases List.eq_nil_or_concat rs' with z | ⟨a, x, z⟩
         · exact absurd z r1
         · exact ⟨a, x, by rw [z]; simp⟩
        rw [hrs'] at r2 r3
        refine wpS_bind (wpS_modify (wpS_bind (wpS_modify (wpS_pure ?_))))
        have R5 := r2.power (power' (arrOf st).size (2 * t1 + t2) (2 * t1 + t2 + t2 + force) (arrOf st).size)
        have fl : (flat (a' ++ [(x'.1, power' (arrOf st).size (2 * t1 + t2) (2 * t1 + t2 + t2 + force) (arrOf st).size)])).length = (flat rs).length := by rw [← r3, zaz, zaz, zap, zap]
        refine ⟨(a' ++ [(x'.1, power' (arrOf st).size (2 * t1 + t2) (2 * t1 + t2 + t2 + force) (arrOf st).size)]) ++ [(D, 0)], (C.drop force), ?_, R5.push Dne sD fl.symm lD.symm, .inl ?_⟩
        · rw [zaz, zap, List.length_append, List.length_append, fl, lD]; simp [flat]
        · rw [zaz, zap, List.length_append, List.length_append, fl, lD]; omega
  · rw [if_neg hm]
    have RR : Runs L κ X st1 rs (C.take n ++ C.drop n) := by rw [List.take_append_drop]; exact R1
    have lT : (C.take n).length = n := by rw [List.length_take]; omega
    have Dne : C.take n ≠ [] := fun z => by rw [z] at lT; simp at lT; omega
    refine wpS_bind (wpS_get ?_)
    have lo2 : rs = [] ∨ ∃ a x, rs = a ++ [x] := by
     rcases List.eq_nil_or_concat rs with z | ⟨a, x, z⟩
     · exact .inl z
     · exact .inr ⟨a, x, by rw [z]; simp⟩
    have pl : (pendingOf st1).size = rs.length := by
     have := congrArg List.length RR.pend
     rw [zbg] at this
     simpa using this
    rcases lo2 with hrs | ⟨a, x, hrs⟩
    · have e0 : (pendingOf st1).back? = none := by
       have : (pendingOf st1) = #[] := Array.eq_empty_of_size_eq_zero (by rw [pl, hrs]; rfl)
       rw [this]; rfl
      rw [e0]
      dsimp only
      refine wpS_bind (wpS_modify (wpS_pure ?_))
      refine ⟨rs ++ [((C.take n), 0)], (C.drop n), ?_, RR.push Dne srt rfl lT.symm, .inl ?_⟩
      · rw [zaz, zap, List.length_append, List.length_append, lT]; simp [flat]
      · rw [zaz, zap, List.length_append, List.length_append, lT]; omega
    · obtain ⟨⟨t1, t2, t3⟩, e0⟩ : ∃ t, (pendingOf st1).back? = some t := by
       rw [Array.back?_eq_getElem?]
       exact ⟨_, Array.getElem?_eq_getElem (by rw [pl, hrs]; simp)⟩
      rw [e0]
      dsimp only
      refine wpS_bind (wpS_mono (wpS_forRange
       (I := fun z c st'' => c = (none, ()) ∧ ∃ rs', rs' ≠ [] ∧ Runs L κ X st'' rs' ((C.take n) ++ (C.drop n)) ∧ (flat rs').length = (flat rs).length)
       (Q := fun c st'' => c = (none, ()) ∧ ∃ rs', rs' ≠ [] ∧ Runs L κ X st'' rs' ((C.take n) ++ (C.drop n)) ∧ (flat rs').length = (flat rs).length) ?_ (fun c st'' h => h) ⟨rfl, rs, by rw [hrs]; simp, RR, rfl⟩) ?_)
      · rintro z c st'' _ _ ⟨rfl, rs', r1, r2, r3⟩
        refine wpS_bind (wpS_get ?_)
        have pl' : (pendingOf st'').size = rs'.length := by
         have := congrArg List.length r2.pend
         rw [zbg] at this
         simpa using this
        by_cases h2 : (pendingOf st'').size > 1
        · rw [if_pos h2]
          obtain ⟨⟨o1, o2, older⟩, eo⟩ : ∃ t, (pendingOf st'')[(pendingOf st'').size - 2]? = some t := ⟨_, Array.getElem?_eq_getElem (by omega)⟩
          rw [eo]
          dsimp only
          split
          · exact wpS_pure ⟨rfl, rs', r1, r2, r3⟩
          · obtain ⟨aa, x1, x2, bb, e1, e2⟩ := zc8 (l := rs') (j := (pendingOf st'').size - 2) (by omega)
            rw [← e2]
            rw [e1] at r2 r3
            refine wpS_bind (zb0 O K hS r2 fun st4 c4 R4 => ?_)
            rw [if_neg (by simp)]
            refine wpS_pure ⟨rfl, _, by simp, R4, ?_⟩
            have w1 := congrArg List.length R4.arr
            have w2 := R4.perm.length_eq
            have w3 := r2.perm.length_eq
            rw [List.length_append] at w2 w3
            omega
        · rw [if_neg h2]
          exact wpS_pure ⟨rfl, rs', r1, r2, r3⟩
      · rintro c st'' ⟨rfl, rs', r1, r2, r3⟩
        dsimp only
        obtain ⟨a', x', hrs'⟩ : ∃ a x, rs' = a ++ [x] := by
         rcases List.eq_nil_or_concat rs' with z | ⟨a, x, z⟩
         · exact absurd z r1
         · exact ⟨a, x, by rw [z]; simp⟩
        rw [hrs'] at r2 r3
        refine wpS_bind (wpS_modify (wpS_bind (wpS_modify (wpS_pure ?_))))
        have R5 := r2.power (power' (arrOf st).size (2 * t1 + t2) (2 * t1 + t2 + t2 + n) (arrOf st).size)
        have fl : (flat (a' ++ [(x'.1, power' (arrOf st).size (2 * t1 + t2) (2 * t1 + t2 + t2 + n) (arrOf st).size)])).length = (flat rs).length := by rw [← r3, zaz, zaz, zap, zap]
        refine ⟨(a' ++ [(x'.1, power' (arrOf st).size (2 * t1 + t2) (2 * t1 + t2 + t2 + n) (arrOf st).size)]) ++ [((C.take n), 0)], (C.drop n), ?_, R5.push Dne srt fl.symm lT.symm, .inl ?_⟩
        · rw [zaz, zap, List.length_append, List.length_append, fl, lT]; simp [flat]
        · rw [zaz, zap, List.length_append, List.length_append, fl, lT]; omega
end
end L2
set_option maxHeartbeats 1000000
namespace L2
open PySem PySem.Spec PyProof.Rows PySem.W
theorem zie {α β : Type} (f : α → β) {l' m : List β} (h : l'.Perm m) : ∀ l : List α, l.map f = m → ∃ p : List α, p.Perm l ∧ p.map f = l' := by
 induction h with
 | nil => intro l e; exact ⟨[], by rw [List.map_eq_nil_iff.mp e], rfl⟩
 | cons x h ih =>
  intro l e
  cases l with
  | nil => cases e
  | cons a l =>
   rw [List.map_cons] at e
   injection e with e1 e2
   obtain ⟨p, p1, p2⟩ := ih l e2
   exact ⟨a :: p, p1.cons a, by rw [List.map_cons, p2, e1]⟩
 | swap x y t =>
  intro l e
  match l, e with
  | a :: b :: l, e =>
   simp only [List.map_cons, List.cons.injEq] at e
   obtain ⟨e1, e2, e3⟩ := e
   exact ⟨b :: a :: l, List.Perm.swap _ _ _, by simp [e1, e2, e3]⟩
 | trans h1 h2 ih1 ih2 =>
  intro l e
  obtain ⟨p, p1, p2⟩ := ih2 l e
  obtain ⟨r, r1, r2⟩ := ih1 p p2
  exact ⟨r, r1.trans p1, r2⟩
section
variable {prog : Program} {w : World} {A : Around} {E : Value → Shared → Prop} {s : Shared} {κ : SortKind}
theorem zjQ {x y : Keyed} {st : SortSt} {Q : Option Bool → SortSt → Prop} {r : Bool} (hk : kindOf st = κ)
 (h : ∀ C : Bool → Shared → Prop, C r s → wpAny (model prog w) A (keyLt' κ x.1 y.1) C (fun _ _ => False) s) (q : Q (some r) st) : wpS (model prog w) A E s (lt' x y) Q st := by
 rw [lt'_eq]
 refine wpS_bind (wpS_get ?_)
 rw [hk]
 refine wpS_bind (wpS_lift (wpAny_attempt (wpAny_mono (h (fun b s' => s' = s ∧ b = r) ⟨rfl, rfl⟩) (fun b s' ⟨e1, e2⟩ => ?_) fun _ _ z => z.elim)))
 subst e1 e2
 exact ⟨rfl, wpS_pure q⟩
theorem zh4 {its : Array Keyed} {lt : Nat → Nat → Bool} (O : KS.Ord lt) (cons : ∀ i j i' j', its[i]? = its[i']? → its[j]? = its[j']? → i < its.size → j < its.size → i' < its.size → j' < its.size → lt i j = lt i' j')
 (hc : ∀ i j x y, its[i]? = some x → its[j]? = some y → ∀ C : Bool → Shared → Prop, C (lt i j) s → wpAny (model prog w) A (keyLt' κ x.1 y.1) C (fun _ _ => False) s)
 {Q : Unit → SortSt → Prop} (q : ∀ st' (p : Array Nat), failedOf st' = none → KS.Ok its.size p → KS.Srt lt p its.size → (arrOf st').toList = p.toList.map (fun i => its.getD i (Value.none, Value.none)) → Q () st') :
 wpS (model prog w) A E s sortRuns' Q (SortSt.mk' κ its #[] 7 none) := by
 classical
 let ix : Keyed → Nat := fun x => (its.toList.findIdx? (fun z => decide (z = x))).getD 0
 have hix : ∀ x ∈ its.toList, its[ix x]? = some x ∧ ix x < its.size := fun x hx => by
  obtain ⟨i, hi⟩ : ∃ i, its.toList.findIdx? (fun z => decide (z = x)) = some i := by
   cases e : its.toList.findIdx? (fun z => decide (z = x)) with
   | some i => exact ⟨i, rfl⟩
   | none =>
    have := List.findIdx?_eq_none_iff.mp e x hx
    simp at this
  have e : ix x = i := by show (its.toList.findIdx? _).getD 0 = i; rw [hi]; rfl
  obtain ⟨h1, h2, _⟩ := List.findIdx?_eq_some_iff_getElem.mp hi
  have h2 := of_decide_eq_true h2
  rw [e]
  refine ⟨?_, by simpa using h1⟩
  rw [← Array.getElem?_toList, List.getElem?_eq_getElem h1, h2]
 refine zfc (L := fun x y => lt (ix x) (ix y)) (S := fun x => x ∈ its.toList) ⟨fun x y h => O.as _ _ h, fun x y z h1 h2 => O.tr _ _ _ h2 h1⟩ (fun x y st Q hx hy hk q => ?_) (X := its.toList) rfl rfl rfl rfl (fun x hx => hx) fun st' hf pm sr => ?_
 · exact zjQ hk (hc _ _ x y (hix x hx).1 (hix y hy).1) q
 · have em : (List.range its.size).map (fun i => its.getD i (Value.none, Value.none)) = its.toList := by
    apply List.ext_getElem
    · simp
    · intro n h1 h2
      simp at h1 h2
      simp [h1]
   obtain ⟨p, p1, p2⟩ := zie _ pm _ em
   refine q st' p.toArray hf ⟨by simpa using p1⟩ (fun i j hij hj => ?_) (by simpa using p2.symm)
   have hl : p.length = its.size := by have := p1.length_eq; simpa using this
   rw [← p2] at sr
   have := List.pairwise_iff_getElem.mp sr i j (by simp; omega) (by simp; omega) hij
   simp only [List.getElem_map] at this
   have hb : ∀ k (hk : k < p.length), p[k] < its.size := fun k hk => List.mem_range.mp (p1.mem_iff.mp (List.getElem_mem hk))
   have key : ∀ k (hk : k < p.length), its[ix (its.getD p[k] (Value.none, Value.none))]? = its[p[k]]? ∧ ix (its.getD p[k] (Value.none, Value.none)) < its.size := fun k hk => by
    have b := hb k hk
    have e : its.getD p[k] (Value.none, Value.none) = its[p[k]] := by simp [b]
    have := hix its[p[k]] (by simp)
    rw [e]
    exact ⟨by rw [this.1]; simp [b], this.2⟩
   have c1 := key j (by omega)
   have c2 := key i (by omega)
   have := (cons _ _ _ _ c1.1 c2.1 c1.2 c2.2 (hb j (by omega)) (hb i (by omega))).symm.trans this
   show lt (KS.K p.toArray j) (KS.K p.toArray i) = false
   have ek : ∀ k (hk : k < p.length), KS.K p.toArray k = p[k] := fun k hk => by unfold KS.K; simp [hk]
   rw [ek j (by omega), ek i (by omega)]
   exact this
end
end L2
namespace L2
open PySem PySem.Spec PyProof.Rows PySem.W
section
variable {X : Cx} {pins : List (Addr × Obj)} {σ : St} {H : Hp} {s : Shared} {a : Addr} {o : HO}
theorem zhy {kS : Addr} {f : Value} {vs : List V} {us : List Value} {kd : Nat → PD} {e1 : Nat} {P : PySem.Fin → Shared → Prop} {E : Value → Shared → Prop}
 (I : Inv X ((a, seqObj "list" #[] e1) :: (kS, seqObj "list" #[] 0) :: pins) σ H s) (Fa : FpOk X pins H a) (Fk : FpOk X pins H kS) (ha0 : X.s₀.heap.get? a = none) (hak : kS ≠ a) (rv : Vals vs us) (h64 : us.length ≤ 1000) (hcons : ∀ i j : Nat, i < us.length → j < us.length → us[i]? = us[j]? → kd i = kd j)
 (turn : ∀ i v u, vs[i]? = some v → us[i]? = some u → ∀ pins' s' H', Inv X pins' σ H' s' → Same H H' → wpAny (model X.prog X.w) X.A (call f [u]) (EP X pins' σ fun kv H'' => Same H' H'' ∧ Rep X.K H'' (kd i) kv) (fun _ _ => False) s')
 (hl : ∀ i, ∃ ds, kd i = .lst ds) (hd : ∀ i, X.A.units + 2 + zay (kd i) < cLine)
 (hok : ∀ i j, i < us.length → j < us.length → ltOk (kd i) (kd j) = true) (O : KS.Ord fun i j => pyLt (kd i) (kd j))
 (h : ∀ (p : Array Nat) s' H', KS.Ok us.length p → KS.Srt (fun i j => pyLt (kd i) (kd j)) p us.length → Same H H' → H' a = none → Inv X pins σ (upd H' a (.lst (p.toList.map fun i => vs.getD i .non))) s' → P (.done (.ret .none)) s') :
 wpAny (model X.prog X.w) X.A (ksk_rest a f false us.toArray e1 (.ref kS)) P E s := by
 have lv := rv.length
 unfold ksk_rest
 refine wpAny_bind (wpAny_rule ?_)
 rw [List.forIn_toArray]
 refine wpAny_bind (ksk_fold (fun i s' => ∃ H' kvs kA e, Inv X ((a, seqObj "list" #[] e1) :: (kS, seqObj "list" kA e) :: pins) σ H' s' ∧ Same H H' ∧ Vals kvs kA.toList ∧ kvs.length = i ∧ ∀ j kv, kvs[j]? = some kv → Rep X.K H' (kd j) kv) us 0 s
  ⟨H, [], #[], 0, I, Same.refl _, .nil, rfl, fun j kv e => by simp at e⟩ ?step ?done)
 case step =>
  rintro j x s' hx ⟨H1, kvs, kA, e, I1, S1, rk, lk, rp⟩
  simp only [Nat.zero_add] at lk ⊢
  have hj : j < us.length := (List.getElem?_eq_some_iff.mp hx).1
  obtain ⟨v, hv⟩ : ∃ v, vs[j]? = some v := ⟨_, List.getElem?_eq_getElem (by omega)⟩
  refine wpAny_bind (wpAny_attempt (wpAny_mono (turn j v x hv hx _ s' H1 I1 S1) (fun u s2 he => ?_) fun _ _ hF => hF.elim))
  obtain ⟨kv, H2, I2, r2, S2, R2⟩ := he
  dsimp only
  obtain ⟨nk, nk1, nk2, nk3, nk4⟩ := I2.pin (kS, seqObj "list" kA e) (List.mem_append_right _ (.tail _ (.head _)))
  obtain ⟨na, na1, na2, na3, na4⟩ := I2.pin (a, seqObj "list" #[] e1) (List.mem_append_right _ (.head _))
  have hz : kA.size = j := by
   have h1 : kvs.length = kA.size := by have := rk.length; simpa using this
   rw [← h1, lk]
  have s1 := Heap.SameBut.update s2.heap kS (Obj.mapSeq (·.push u))
  obtain ⟨c2, hc2⟩ : ∃ c2, (s2.heap.update kS (Obj.mapSeq (·.push u))).get? kS = some (seqObj "list" (kA.push u) c2) := ⟨_, get?_update_seq nk (·.push u)⟩
  refine wpAny_bind (listUpdate_at nk rfl ?_ (by rw [sizeLine_eq]; omega) (Nat.le_trans (Nat.le_of_eq (Array.size_push ..)) (by rw [sizeLine_eq]; omega)))
  have I3 : Inv X pins σ H2 s2 := I2.pins_of fun p hp => I2.pin p (List.mem_append_right _ (.tail _ (.tail _ hp)))
  have I4 : Inv X pins σ H2 { s2 with heap := s2.heap.update kS (Obj.mapSeq (·.push u)), toks := s2.toks } := I3.turned (it := kS) (fun b o hb q => (s1.2 b hb).trans q) nk1 nk2 Fk.2.2.2.1 Fk.2.2.2.2.1 Fk.2.2.2.2.2
  refine wpAny_pure ⟨rfl, H2, kvs ++ [kv], kA.push u, c2, I4.pins_of fun p hp => ?_, S1.trans S2, ?_, by rw [List.length_append]; simp [lk], fun i kv' e' => ?_⟩
  · rcases List.mem_cons.mp hp with rfl | hp
    · exact ⟨(s1.2 a hak.symm).trans na, na1, na2, na3, na4⟩
    · rcases List.mem_cons.mp hp with rfl | hp
      · exact ⟨hc2, nk1, nk2, nk3, fun v z => by cases z⟩
      · exact I4.pin p (List.mem_append_right _ hp)
  · rw [Array.toList_push]
    exact rk.append (.cons r2 .nil)
  · rcases Nat.lt_or_ge i kvs.length with h1 | h1
    · rw [List.getElem?_append_left h1] at e'
      exact Rep.same S2 _ _ (rp i kv' e')
    · rw [List.getElem?_append_right h1] at e'
      have : i = kvs.length := by
       rcases Nat.lt_or_ge (i - kvs.length) 1 with h2 | h2
       · omega
       · rw [List.getElem?_eq_none (by simpa using h2)] at e'; cases e'
      subst this
      simp at e'
      subst e'
      rw [lk]
      exact R2
 case done =>
  rintro s' ⟨H1, kvs, kA, e, I1, S1, rk, lk, rp⟩
  rw [Nat.zero_add] at lk
  obtain ⟨nk, nk1, nk2, nk3, nk4⟩ := I1.pin (kS, seqObj "list" kA e) (List.mem_append_right _ (.tail _ (.head _)))
  obtain ⟨na, na1, na2, na3, na4⟩ := I1.pin (a, seqObj "list" #[] e1) (List.mem_append_right _ (.head _))
  refine wpAny_bind (listItems_at nk rfl ?_)
  obtain ⟨ks, rfl⟩ : ∃ ks : List Value, kA = ks.toArray := ⟨kA.toList, by simp⟩
  simp only [List.toList_toArray] at rk
  have lks : ks.length = us.length := by have := rk.length; omega
  have key : ∀ (s2 : Shared), s2 = s' → ∀ i, i < us.length → ∃ (l : Addr) (kv : V), ks.getD i Value.none = .ref l ∧ kvs[i]? = some kv ∧ RelV kv (.ref l) ∧ Rep X.K H1 (kd i) kv := fun s2 _ i hi => by
   obtain ⟨kv, hkv⟩ : ∃ kv, kvs[i]? = some kv := ⟨_, List.getElem?_eq_getElem (by omega)⟩
   obtain ⟨u, h1, h2⟩ := Vals.get rk hkv
   have h3 := rp i kv hkv
   have h3' := h3
   obtain ⟨ds, hds⟩ := hl i
   rw [hds, Rep] at h3'
   obtain ⟨l, xs, rfl, _, _⟩ := h3'
   cases h2
   exact ⟨l, _, by rw [List.getD_eq_getElem?_getD, h1]; rfl, hkv, rfl, h3⟩
  have tail : ∀ (st' : SortSt) (p : Array Nat), arrOf st' = p.map (kas_item (ks.toArray.zip us.toArray)) → failedOf st' = none → KS.Ok us.length p → KS.Srt (fun i j => pyLt (kd i) (kd j)) p us.length → wpAny (model X.prog X.w) X.A (ksk_tail a false e1 (.ref kS) st') P E s' := by
   intro st' p har hf ok srt
   have hout := kat_snds lks har
   have hp := ok.size
   have s1 := Heap.SameBut.update s'.heap kS (Obj.mapSeq fun _ => (#[] : Array Value))
   have na' : (s'.heap.update kS (Obj.mapSeq fun _ => (#[] : Array Value))).get? a = some (seqObj "list" #[] e1) := (s1.2 a hak.symm).trans na
   have s2 := Heap.SameBut.update (s'.heap.update kS (Obj.mapSeq fun _ => (#[] : Array Value))) a (Obj.mapSeq fun _ => (arrOf st').map (·.2))
   obtain ⟨c2, hc2⟩ : ∃ c2, ((s'.heap.update kS (Obj.mapSeq fun _ => (#[] : Array Value))).update a (Obj.mapSeq fun _ => (arrOf st').map (·.2))).get? a = some (seqObj "list" ((arrOf st').map (·.2)) c2) :=
    ⟨_, get?_update_seq na' fun _ => (arrOf st').map (·.2)⟩
   unfold ksk_tail
   dsimp only
   refine wpAny_bind (listUpdate_at nk rfl ?_ (by rw [List.size_toArray, sizeLine_eq]; omega) (Nat.zero_le _))
   refine wpAny_bind (wpAny_letGo ?_)
   refine wpAny_bind (seqEpoch_at na' rfl ?_)
   refine wpAny_bind (listUpdate_at na' rfl ?_ (Nat.zero_le _) (by
    simp only [Bool.false_eq_true, if_false]
    rw [hout]
    show (p.toList.map fun i => us.getD i Value.none).length ≤ _
    rw [List.length_map, Array.length_toList, hp, sizeLine_eq]
    omega))
   rw [hf]
   simp only [bne_self_eq_false, Bool.false_eq_true, if_false]
   have I3 : Inv X pins σ H1 s' := I1.pins_of fun p hp => I1.pin p (List.mem_append_right _ (.tail _ (.tail _ hp)))
   have I4 : Inv X pins σ H1 { s' with heap := s'.heap.update kS (Obj.mapSeq fun _ => (#[] : Array Value)), toks := s'.toks } := I3.turned (it := kS) (fun b o hb q => (s1.2 b hb).trans q) nk1 nk2 Fk.2.2.2.1 Fk.2.2.2.2.1 Fk.2.2.2.2.2
   have I5 : Inv X pins σ H1 { s' with heap := (s'.heap.update kS (Obj.mapSeq fun _ => (#[] : Array Value))).update a (Obj.mapSeq fun _ => (arrOf st').map (·.2)), toks := s'.toks } := Inv.turned (s := { s' with heap := s'.heap.update kS (Obj.mapSeq fun _ => (#[] : Array Value)), toks := s'.toks }) (t' := s'.toks) (it := a) I4 (fun b o hb q => (s2.2 b hb).trans q) na1 na2 Fa.2.2.2.1 Fa.2.2.2.2.1 Fa.2.2.2.2.2
   refine wpAny_pure (h p _ H1 ok srt S1 na1 (I5.track7 ⟨na1, Fa.2⟩ ha0 ?_))
   refine ⟨by rw [List.length_map, Array.length_toList, hp, sizeLine_eq]; omega, p.toList.map fun i => us.getD i Value.none, c2, ?_, ?_⟩
   · have : ∀ l : List Nat, Vals (l.map fun i => vs.getD i .non) (l.map fun i => us.getD i Value.none) := fun l => by
      induction l with
      | nil => exact .nil
      | cons i l ih =>
       refine .cons ?_ ih
       show RelV (vs.getD i .non) (us.getD i Value.none)
       rcases Nat.lt_or_ge i vs.length with h1 | h1
       · obtain ⟨u, g1, g2⟩ := Vals.get rv (List.getElem?_eq_getElem h1)
         rw [List.getD_eq_getElem?_getD, List.getD_eq_getElem?_getD, g1, List.getElem?_eq_getElem h1]
         exact g2
       · rw [List.getD_eq_getElem?_getD, List.getD_eq_getElem?_getD, List.getElem?_eq_none h1, List.getElem?_eq_none (by omega)]
         rfl
     exact this _
   · rw [hout] at hc2 ⊢
     exact hc2
  unfold ksk_end
  dsimp only
  simp only [Bool.false_eq_true, if_false]
  have hsz : us.toArray.size = us.length := by simp
  by_cases h2 : us.toArray.size < 2
  · rw [if_pos h2, if_pos h2]
    refine wpAny_bind (wpAny_pure ?_)
    rw [StateT.run_pure]
    refine wpAny_bind (wpAny_pure ?_)
    have e1 := kas_range (ks.toArray.zip us.toArray)
    have e2 : (ks.toArray.zip us.toArray).size = us.length := by simp [lks]
    rw [e2] at e1
    exact tail _ (List.range us.length).toArray e1.symm rfl ⟨by simp⟩ (fun i j hij hj => absurd hj (by rw [hsz] at h2; omega))
  · rw [if_neg h2, if_neg h2]
    rw [hsz] at h2
    refine wpAny_bind (kas_kind (T := .type "list") (by omega) (fun v hv => ?_) (by rfl) (by rfl) ?_)
    · obtain ⟨i, hi, rfl⟩ := List.getElem_of_mem hv
      obtain ⟨l, kv, g1, g2, g3, g4⟩ := key s' rfl i (by omega)
      rw [List.getD_eq_getElem?_getD, List.getElem?_eq_getElem hi] at g1
      obtain ⟨ds, hds⟩ := hl i
      rw [hds, Rep] at g4
      obtain ⟨l', xs, rfl, g5, _⟩ := g4
      cases g3
      obtain ⟨its, _, pl, _⟩ := I1.list g5
      rw [show ks[i] = .ref _ from g1]
      exact zgC pl.isList
    · have hgo : ∀ i j, i < us.length → j < us.length → ∀ C : Bool → Shared → Prop, C (pyLt (kd i) (kd j)) s' → wpAny (model X.prog X.w) X.A (keyLt' oneType' (ks.getD i Value.none) (ks.getD j Value.none)) C (fun _ _ => False) s' := fun i j hi hj C hC => ?_
      · have zs : (ks.toArray.zip us.toArray).size = us.length := by simp [lks]
        have zg : ∀ i x, (ks.toArray.zip us.toArray)[i]? = some x → i < us.length ∧ x.1 = ks.getD i Value.none ∧ us[i]? = some x.2 := fun i x e => by
         have hi : i < (ks.toArray.zip us.toArray).size := (Array.getElem?_eq_some_iff.mp e).1
         rw [zs] at hi
         have e2 := (Array.getElem?_eq_some_iff.mp e).2
         rw [Array.getElem_zip] at e2
         refine ⟨hi, ?_, ?_⟩
         · rw [← e2]; simp [lks, hi]
         · rw [← e2]; simp [hi]
        refine wpAny_bind (wpAny_mono (zh4 (κ := oneType') (its := ks.toArray.zip us.toArray) (lt := fun i j => pyLt (kd i) (kd j)) (E := E) (Q := fun _ st' => ∃ p : Array Nat, arrOf st' = p.map (kas_item (ks.toArray.zip us.toArray)) ∧ failedOf st' = none ∧ KS.Ok us.length p ∧ KS.Srt (fun i j => pyLt (kd i) (kd j)) p us.length) O (fun i j i' j' e1 e2 h1 h2 h3 h4 => ?_) (fun i j x y e1 e2 C hC => ?_) fun st' p hf ok srt har => ?_) ?_ fun _ _ e => e)
        · rw [zs] at h1 h2 h3 h4
          have c1 : kd i = kd i' := hcons i i' h1 h3 (by
           obtain ⟨x, hx⟩ : ∃ x, (ks.toArray.zip us.toArray)[i]? = some x := ⟨_, Array.getElem?_eq_getElem (by rw [zs]; exact h1)⟩
           rw [(zg i x hx).2.2, (zg i' x (by rw [← e1]; exact hx)).2.2])
          have c2 : kd j = kd j' := hcons j j' h2 h4 (by
           obtain ⟨x, hx⟩ : ∃ x, (ks.toArray.zip us.toArray)[j]? = some x := ⟨_, Array.getElem?_eq_getElem (by rw [zs]; exact h2)⟩
           rw [(zg j x hx).2.2, (zg j' x (by rw [← e2]; exact hx)).2.2])
          show pyLt (kd i) (kd j) = pyLt (kd i') (kd j')
          rw [c1, c2]
        · obtain ⟨g1, g2, _⟩ := zg i x e1
          obtain ⟨g3, g4, _⟩ := zg j y e2
          rw [g2, g4]
          exact hgo i j g1 g3 C hC
        · rw [zs] at ok srt
          refine ⟨p, ?_, hf, ok, srt⟩
          apply Array.toList_inj.mp
          rw [har, Array.toList_map]
          refine List.map_congr_left fun n _ => ?_
          unfold kas_item
          first | rfl | simp [Array.getD_eq_getD_getElem?]
        · rintro ⟨⟨⟩, st'⟩ s2 ⟨rfl, p, har, hf, ok, srt⟩
          exact tail st' p har hf ok srt
      · obtain ⟨l1, kv1, a1, a2, a3, a4⟩ := key s' rfl i hi
        obtain ⟨l2, kv2, b1, b2, b3, b4⟩ := key s' rfl j hj
        show wpAny _ _ (keyLt' oneType' (ks.getD i Value.none) (ks.getD j Value.none)) _ _ _
        rw [a1, b1]
        have k1 := hok i j hi hj
        have hdi := hd i
        obtain ⟨ds, hds⟩ := hl i
        obtain ⟨es, hes⟩ := hl j
        rw [hds, hes] at k1 hC
        rw [hds] at a4 hdi
        rw [hes] at b4
        rw [Rep] at a4 b4
        obtain ⟨m1, xs, rfl, q1, q2⟩ := a4
        obtain ⟨m2, ys, rfl, q3, q4⟩ := b4
        cases a3; cases b3
        obtain ⟨its, r1, p1, _⟩ := I1.list q1
        obtain ⟨its', r2, p2, _⟩ := I1.list q3
        rw [zay] at hdi
        rw [ltOk] at k1
        rw [pyLt] at hC
        obtain ⟨n, FA⟩ := zcB I1 X.A.in1 ds es xs ys its its' q2 q4 r1 r2 (by rw [Around.in1_units]; omega) k1
        exact zgu p1.isList p2.isList (by omega) FA hC
end
end L2
namespace L2
open PySem PySem.Spec PyProof.Rows PySem.W
section
variable {X : Cx} {pins : List (Addr × Obj)} {σ : St} {H : Hp} {s : Shared}
def zdf (K : PySem.W.Frag) (sp : Sp) : List V → Hp → VK → Prop := fun xs H Q => ∃ (l : Addr) (vs : List V) (kd : Nat → PD), xs = [.ref l] ∧ SqL K H l vs ∧ vs.length ≤ 1000 ∧ (∀ v ∈ vs, ∃ a, v = .ref a) ∧ (∀ i j : Nat, i < vs.length → j < vs.length → vs[i]? = vs[j]? → kd i = kd j) ∧
 (∀ i v, vs[i]? = some v → ∀ H1, Same H H1 → ∀ Q1 : VK, (∀ kv H2, Same H1 H2 → Rep K H2 (kd i) kv → Q1 kv H2) → sp [v] H1 Q1 E0) ∧
 (∀ i, ∃ ds, kd i = .lst ds) ∧ (∀ i, zay (kd i) ≤ 20) ∧ (∀ i j, i < vs.length → j < vs.length → ltOk (kd i) (kd j) = true) ∧ KS.Ord (fun i j => pyLt (kd i) (kd j)) ∧
 ∀ (r : Addr) (p : Array Nat) (H' : Hp), KS.Ok vs.length p → KS.Srt (fun i j => pyLt (kd i) (kd j)) p vs.length → Same H H' → H r = none → H' r = some (.lst (p.toList.map fun i => vs.getD i .non)) → Q (.ref r) H'
def ziZ (K : PySem.W.Frag) (sp : Sp) (t : TA) : TE := fun σ H Q => t σ H fun vs H1 => zdf K sp vs H1 Q
theorem zei {k : Nat} {f : Addr} {fd : FuncData} {x : Str} {sp : Sp} (F : FnOk X.prog X.w X.K X.mg X.base CX0 k f fd [x] sp) (hb : Binds X.K fd [x] []) (hr : Room (k + 2) X.A) : ziW X (.builtin "sorted") [Str.ofString "key"] (fun xs zs H Q => zs = [.ref f] ∧ zdf X.K sp xs H Q) := by
 intro pins s σ H xs zs us ws Q I r1 r2 h
 obtain ⟨rfl, l, vs, kd, rfl, hq, h64, hrf, hco, turn, hl, hd, hok, O, q⟩ := h
 obtain ⟨u, rfl, ru⟩ := zeo r1
 obtain ⟨z, rfl, rz⟩ := zeo r2
 cases ru; cases rz
 obtain ⟨its, rv, pl, hz⟩ := I.list hq
 have lv := rv.length
 show wpAny _ _ (call (.builtin "sorted") [.ref l] [(Str.ofString "key", .ref f)]) _ _ _
 refine call_function_entry_kw kind_sorted plain_sorted entry_sorted (ksk_s1 _ _) ?_
 unfold Builtin.«sorted»
 refine wpAny_bind (m := checkCount "sorted" 1 1 _) (wpAny_pure ?_)
 refine wpAny_bind (collect_list pl.isList ?_ (by omega))
 refine wpAny_bind (wpAny_newList ?_ (by omega))
 have hsz : ((s.heap.push (seqObj "list" #[] 0)).update s.heap.objs.size (Obj.mapSeq (· ++ its.toArray))).objs.size = s.heap.objs.size + 1 := by
  rw [Heap.size_update, size_push']
 have hoL : (((s.heap.push (seqObj "list" #[] 0)).update s.heap.objs.size (Obj.mapSeq (· ++ its.toArray))).push (seqObj "list" its.toArray 0)).get? (s.heap.objs.size + 1) = some (seqObj "list" its.toArray 0) := by
  rw [← hsz]; exact Heap.get?_push_size _ rfl
 have keep : ∀ b o, s.heap.get? b = some o → (((s.heap.push (seqObj "list" #[] 0)).update s.heap.objs.size (Obj.mapSeq (· ++ its.toArray))).push (seqObj "list" its.toArray 0)).get? b = some o := fun b o q => by
  have hlt : b < s.heap.objs.size := Heap.lt_size q
  rw [Heap.get?_push_ne _ _ _ (by rw [hsz]; exact Nat.ne_of_lt (Nat.lt_succ_of_lt hlt)), Heap.get?_update_ne _ _ _ _ (Nat.ne_of_lt hlt), Heap.get?_push_ne _ _ _ (Nat.ne_of_lt hlt)]
  exact q
 show wpAny _ _ _ _ _ { s with heap := ((s.heap.push (seqObj "list" #[] 0)).update s.heap.objs.size (Obj.mapSeq (· ++ its.toArray))).push (seqObj "list" its.toArray 0) }
 rw [hsz]
 generalize hg : ((s.heap.push (seqObj "list" #[] 0)).update s.heap.objs.size (Obj.mapSeq (· ++ its.toArray))).push (seqObj "list" its.toArray 0) = g at hoL keep ⊢
 refine wpAny_bind (wpAny_holding (wpAny_call_entry_kw slot_list_sort ⟨_, hoL, rfl⟩ entry_list_sort ?body (ksk_l1 _ _)))
 case body =>
  show wpAny (model X.prog X.w) X.A.in1.in1 (Builtin.«list.sort» ⟨[.ref (s.heap.objs.size + 1)], [(Str.ofString "key", .ref f)]⟩) _ _ _
  rw [ksk_t1]
  unfold ksk_tree
  have ha : s.heap.objs.size + 1 < g.objs.size := Heap.lt_size hoL
  refine wpAny_bind (listItems_at hoL rfl ?_)
  refine wpAny_bind (listUpdate_at hoL rfl ?_ (by rw [List.size_toArray, sizeLine_eq]; omega) (Nat.zero_le _))
  obtain ⟨e1, ho1⟩ : ∃ e1, (g.update (s.heap.objs.size + 1) (Obj.mapSeq fun _ => #[])).get? (s.heap.objs.size + 1) = some (seqObj "list" #[] e1) := ⟨_, get?_update_seq hoL (fun _ => #[])⟩
  refine wpAny_bind (seqEpoch_at ho1 rfl ?_)
  refine wpAny_bind (wpAny_newTuple ?_ (by show its.length ≤ _; rw [sizeLine_eq]; omega))
  refine wpAny_bind (wpAny_newList ?_ (Nat.zero_le _))
  refine wpAny_holding ?_
  have ho6 : (((g.update (s.heap.objs.size + 1) (Obj.mapSeq fun _ => #[])).push (seqObj "tuple" its.toArray 0)).push (seqObj "list" #[] 0)).get? (s.heap.objs.size + 1) = some (seqObj "list" #[] e1) :=
   Heap.get?_push_of_some _ (Heap.get?_push_of_some _ ho1)
  have hkS : ((g.update (s.heap.objs.size + 1) (Obj.mapSeq fun _ => #[])).push (seqObj "tuple" its.toArray 0)).objs.size = g.objs.size + 1 := by rw [size_push', Heap.size_update]
  have hok6 : (((g.update (s.heap.objs.size + 1) (Obj.mapSeq fun _ => #[])).push (seqObj "tuple" its.toArray 0)).push (seqObj "list" #[] 0)).get? (g.objs.size + 1) = some (seqObj "list" #[] 0) := by
   rw [← hkS]; exact Heap.get?_push_size _ rfl
  have kept : ∀ b o, s.heap.get? b = some o → (((g.update (s.heap.objs.size + 1) (Obj.mapSeq fun _ => #[])).push (seqObj "tuple" its.toArray 0)).push (seqObj "list" #[] 0)).get? b = some o := fun b o q => by
   refine Heap.get?_push_of_some _ (Heap.get?_push_of_some _ ?_)
   rw [Heap.get?_update_ne _ _ _ _ (Nat.ne_of_lt (Nat.lt_succ_of_lt (Heap.lt_size q)))]
   exact keep b o q
  show wpAny _ _ (ksk_rest _ _ _ _ _ (.ref ((g.update (s.heap.objs.size + 1) (Obj.mapSeq fun _ => #[])).push (seqObj "tuple" its.toArray 0)).objs.size)) _ _ { s with heap := ((g.update (s.heap.objs.size + 1) (Obj.mapSeq fun _ => #[])).push (seqObj "tuple" its.toArray 0)).push (seqObj "list" #[] 0) }
  rw [hkS]
  generalize ((g.update (s.heap.objs.size + 1) (Obj.mapSeq fun _ => #[])).push (seqObj "tuple" its.toArray 0)).push (seqObj "list" #[] 0) = g6 at ho6 hok6 kept ⊢
  have Fa : FpOk X.in2 pins H (s.heap.objs.size + 1) := I.in2.fpOk (Nat.le_succ _) (I.hok.fresh (Nat.le_succ _))
  have hle : s.heap.objs.size ≤ g.objs.size + 1 := by omega
  have hne : g.objs.size + 1 ≠ s.heap.objs.size + 1 := by omega
  have h64' : its.length ≤ 1000 := by omega
  have hcons : ∀ i j : Nat, i < its.length → j < its.length → its[i]? = its[j]? → kd i = kd j := fun i j hi hj e => by
   refine hco i j (by omega) (by omega) ?_
   obtain ⟨v1, hv1⟩ : ∃ v, vs[i]? = some v := ⟨_, List.getElem?_eq_getElem (by omega)⟩
   obtain ⟨v2, hv2⟩ : ∃ v, vs[j]? = some v := ⟨_, List.getElem?_eq_getElem (by omega)⟩
   obtain ⟨u1, g1, g2⟩ := Vals.get rv hv1
   obtain ⟨u2, g3, g4⟩ := Vals.get rv hv2
   obtain ⟨a1, rfl⟩ := hrf v1 (List.mem_of_getElem? hv1)
   obtain ⟨a2, rfl⟩ := hrf v2 (List.mem_of_getElem? hv2)
   rw [g1, g3] at e
   cases g2; cases g4; cases e
   rw [hv1, hv2]
  have Fk : FpOk X.in2 pins H (g.objs.size + 1) := I.in2.fpOk hle (I.hok.fresh hle)
  have I6 : Inv X.in2 pins σ H { s with heap := g6 } := Inv.kept (t' := s.toks) I.in2 kept
  refine zhy (X := X.in2) (pins := pins) (σ := σ) (H := H) (vs := vs) (kd := kd) (I6.pins_of fun p hp => ?_) Fa Fk (Heap.get?_none_of_le (Nat.le_succ_of_le I.sz)) hne rv h64' hcons (fun i v u hv hu pins' s' H' I' S' => ?_) hl (fun i => ?_) (by rw [← lv]; exact hok) O fun p s' H' ok srt S' hn I' => ?_
  · rcases List.mem_cons.mp hp with rfl | hp
    · exact ⟨ho6, Fa.1, Fa.2.1, Fa.2.2.1, fun v z => by cases z⟩
    · rcases List.mem_cons.mp hp with rfl | hp
      · exact ⟨hok6, Fk.1, Fk.2.1, Fk.2.2.1, fun v z => by cases z⟩
      · exact I6.pin p (List.mem_append_right _ hp)
  · obtain ⟨u', h1, h2⟩ := Vals.get rv hv
    rw [hu] at h1
    cases h1
    exact ziE (X := X.in2) F (Room.in1 (Room.in1 hr)) hb .nil zjJ I' (.cons h2 .nil) (turn i v hv H' S' _ fun kv H2 s2 r2 => ⟨s2, r2⟩)
  · have := hd i
    have := hr.un
    show X.A.units + 1 + 1 + 2 + zay (kd i) < cLine
    omega
  · refine ⟨_, rfl, ?_⟩
    refine wpAny_pure ⟨_, rfl, ?_⟩
    rw [← lv] at ok srt
    exact ⟨.ref _, _, I'.out2 I.ok, rfl, q _ p _ ok srt (zcH S' Fa.1) Fa.1 zad⟩
theorem zhc {k : Nat} {x px : Str} {sp : Sp} {e : Expr} {t : TA} {p1 p2 p3 pos : Pos} (G : FnH X.prog X.w X.K X.mg X.base k x [px] sp) (hr : Room (k + 2) X.A) (hg : Gl X "sorted") (hm : X.mg "sorted" = none) (hx : Gl X x) (ha : PA X [e] t) (hks : (x == ("__debug__" : Str)) = false := by decide)
 (he : backTo pos (starEach [e] X.env) = (false, eval e X.env) :: backTo pos (starEach [] X.env) := by rfl) (hpl : (backTo pos (starEach [e] X.env)).any (·.1) = false := by rfl) :
 PE X (.Call (.Name "sorted" p1) [e] [⟨some "key", .Name x p2, p3⟩] pos) (ziZ X.K sp t) := by
 obtain ⟨f, fd, h1, h2, h3, h4⟩ := G
 have := zhe (p := p1) (pos := pos) (zei h1 h2 hr) hg hm zeS ha (zi9 (nm := some "key") (kpos := p3) (zhd (v := .ref f) (pos := p2) hx h4 rfl hks) zjE) rfl (by decide) (by decide) he hpl rfl rfl
 intro pins s σ H Q I h
 refine this pins s σ H Q I ?_
 have e0 : (fun (vs : List V) (H1 : Hp) => zdf X.K sp vs H1 Q) = (fun vs H1 => [V.ref f] = [V.ref f] ∧ zdf X.K sp vs H1 Q) := by
  funext vs H1
  simp
 have h' : t σ H (fun vs H1 => zdf X.K sp vs H1 Q) := h
 rw [e0] at h'
 exact h'
end
end L2
namespace L2
open PySem PySem.Spec PyProof.Rows
section
variable {P : Program} {w : World} {base : Heap} {l : List Env} {H H' : Hp} {s0 s' : Shared} {a C t : Addr} {B h' : Heap}
end
section
variable {X : Cx} {pins : List (Addr × Obj)} {σ : St} {H H' : Hp} {s s' : Shared} {a C : Addr}
end
def del (H : Hp) (a : Addr) : Hp := fun b => if b = a then none else H b
section
variable {X : Cx} {pins : List (Addr × Obj)} {σ : St} {H : Hp} {s : Shared} {e C : Addr}
end
section
variable {prog : Program} {w : World} {A : Around} {E : Value → Shared → Prop} {h : Heap} {g : Array GenState} {d : Drawn} {t : Nat} {os : OsState} {nm q : Str} {C N : Addr} {bs bm bmB : List Value} {hdct : Bool} {sn : List Str} {sub : List Value}
variable {ab : Bool} {col : Option Bool} {dd : Option Addr} {k0 k1 k2 k3 k5 : Option Value} {B newId initId : String} {rest : List Value}
end
section
variable {prog : Program} {w : World} {A : Around} {E : Value → Shared → Prop} {h : Heap} {g : Array GenState} {d : Drawn} {t : Nat} {os : OsState} {nm q : Str} {C N : Addr} {bs bm bmB : List Value} {hdct : Bool} {sn : List Str} {sub : List Value}
variable {ab : Bool} {col : Option Bool} {dd : Option Addr} {k0 k1 k2 k3 k5 : Option Value} {B newId initId : String} {rest : List Value}
end
section
variable {X : Cx}
end
section
variable {P : Program} {w : World} {K : PySem.W.Frag} {mg : Str → Option Value} {base : Heap} {N : List Str} {qual : Str} {scope : Scope} {f : Addr} {cd : Value} {A : Around} {outer : List Env} {s : Shared} {H : Hp} {E : XK}
end
section
variable {P : Program} {w : World} {K : PySem.W.Frag} {mg : Str → Option Value} {base : Heap} {N : List Str} {qual : Str} {scope : Scope} {f : Addr} {cd : Value} {A : Around} {outer : List Env} {s : Shared} {H : Hp} {E : XK}
end
section
variable {X : Cx} {E : XK} {C fI : Addr} {fd : FuncData} {k : Nat} {x : Str} {e1 : Expr} {t : TA} {np cpos pos : Pos}
end
section
variable {X : Cx} {pins : List (Addr × Obj)} {σ : St} {H : Hp} {s : Shared} {a : Addr} {o : HO}
end
section
variable {X : Cx} {pins : List (Addr × Obj)} {σ : St} {H : Hp} {s : Shared} {a : Addr}
end
section
variable {X : Cx} {pins pins' : List (Addr × Obj)} {σ : St} {H : Hp} {s : Shared} {RR : St → Value → Hp → Prop}
end
section
variable {P : Program} {w : World} {base : Heap} {l : List Env} {H H' : Hp} {s0 s' : Shared} {a C t : Addr} {B : Heap}
end
section
variable {M : Model} {A : Around} {E : Value → Shared → Prop} {h : Heap} {g : Array GenState} {d : Drawn} {t : Nat} {os : OsState} {nm q nm0 q0 : Str} {C N C0 N0 e : Addr} {bs bm bs0 bm0 : List Value} {hdct hdct0 : Bool} {sn sn0 : List Str} {sub sub0 : List Value}
variable {ab ab0 : Bool} {col col0 : Option Bool} {dd dd0 : Option Addr} {k0 k1 k2 k3 k5 j0 j1 j2 j3 j5 : Option Value} {newId newId0 : String} {oe : Obj}
end
section
variable {X : Cx} {C0 : Addr} {x n : Str} {i : Nat} {body suite : List Stmt} {b₀ : Stmt} {np hpos pos : Pos} {tb : (St → Value → Hp → Prop) → TS} {ts : TS}
end
section
variable {X : Cx}
end
open PySem.W (Looks looks_findIn looks_mroIn looks_typeIn)
section
variable {prog : Program} {w : World} {A : Around} {E : Value → Shared → Prop} {K : PySem.W.Frag} {h : Heap} {g : Array GenState} {d : Drawn} {t : Nat} {os : OsState} {a C : Addr}
end
section
variable {X : Cx}
def clsV : V → Value
 | .ref D => .ref D
 | .ty n => .type n
 | _ => .none
def zhF : V → Bool
 | .ref _ => true
 | .ty _ => true
 | _ => false
theorem ziz {c : V} {u : Value} (h : zhF c = true) (r : RelV c u) : u = clsV c := by
 cases c with
 | ref D => exact r
 | ty n => exact r
 | _ => cases h
theorem zeP : ∀ {cs : List V} {us : List Value}, cs.all zhF = true → Vals cs us → us = cs.map clsV
 | [], _, _, .nil => rfl
 | c :: cs, _, h, .cons r rs => by
  rw [List.all_cons, Bool.and_eq_true] at h
  rw [ziz h.1 r, zeP h.2 rs]; rfl
end
end L2
namespace L2
open PySem PySem.Spec PyProof.Rows
section
variable {X : Cx} {pos : Pos}
end
end L2
namespace WB
end WB
namespace WB
end WB
namespace L2
open PySem PySem.Spec PyProof.Rows
section
variable {X : Cx}
variable {e : Expr} {te : TE} {pos p2 p3 p4 : Pos}
end
end L2
namespace WB
end WB
namespace L2
open PySem PySem.Spec PyProof.Rows
inductive DX where
 | non
 | bl (b : Bool)
 | int (i : Int)
 | str (x : Str)
 | lst (ds : List DX)
 | tup (ds : List DX)
 | dic
mutual
def RepX (H : Hp) : DX → V → Prop
 | .non, v => v = .non
 | .bl b, v => v = .bl b
 | .int i, v => v = .int i
 | .str x, v => v = .str x ∧ x.length ≤ 900
 | .lst ds, v => ∃ a xs, v = .ref a ∧ H a = some (.lst xs) ∧ ds.length ≤ 900 ∧ RepXs H ds xs
 | .tup ds, v => ∃ a xs, v = .ref a ∧ H a = some (.tup xs) ∧ ds.length ≤ 900 ∧ RepXs H ds xs
 | .dic, v => ∃ a, v = .ref a ∧ H a = some (.dK [])
def RepXs (H : Hp) : List DX → List V → Prop
 | [], xs => xs = []
 | d :: ds, xs => ∃ x r, xs = x :: r ∧ RepX H d x ∧ RepXs H ds r
end
mutual
theorem RepX.same {H H' : Hp} (s : Same H H') : ∀ (d : DX) {v : V}, RepX H d v → RepX H' d v
 | .non, v, h => by rw [RepX] at *; exact h
 | .bl b, v, h => by rw [RepX] at *; exact h
 | .int i, v, h => by rw [RepX] at *; exact h
 | .str x, v, h => by rw [RepX] at *; exact h
 | .lst ds, v, h => by rw [RepX] at *; obtain ⟨a, xs, e, h1, h0, h2⟩ := h; exact ⟨a, xs, e, s _ _ h1, h0, RepXs.same s ds h2⟩
 | .tup ds, v, h => by rw [RepX] at *; obtain ⟨a, xs, e, h1, h0, h2⟩ := h; exact ⟨a, xs, e, s _ _ h1, h0, RepXs.same s ds h2⟩
 | .dic, v, h => by rw [RepX] at *; obtain ⟨a, e, h1⟩ := h; exact ⟨a, e, s _ _ h1⟩
theorem RepXs.same {H H' : Hp} (s : Same H H') : ∀ (ds : List DX) {xs : List V}, RepXs H ds xs → RepXs H' ds xs
 | [], xs, h => by rw [RepXs] at *; exact h
 | d :: ds, xs, h => by rw [RepXs] at *; obtain ⟨x, r, e, h1, h2⟩ := h; exact ⟨x, r, e, RepX.same s d h1, RepXs.same s ds h2⟩
end
mutual
def pd : DX → PyData
 | .non => .none
 | .bl b => .bool b
 | .int i => .int i
 | .str x => .str x
 | .lst ds => .list (pds ds)
 | .tup ds => .tuple (pds ds)
 | .dic => .dict []
def pds : List DX → List PyData
 | [] => []
 | d :: ds => pd d :: pds ds
end
def zj5 : DX → Bool
 | .lst _ => false
 | .tup _ => false
 | _ => true
section
variable {X : Cx} {pins : List (Addr × Obj)} {σ : St} {H : Hp} {s : Shared}
mutual
theorem zbo (I : Inv X pins σ H s) : ∀ (d : DX) {v : V} {u : Value}, RepX H d v → RelV v u → ∃ as, Reads s.heap u (pd d) as ∧ (zj5 d = true → sysModules ∉ as)
 | .non, v, u, h, r => by rw [RepX] at h; subst h; cases (show u = Value.none from r); rw [pd]; exact ⟨[], .none, fun _ => by simp⟩
 | .bl b, v, u, h, r => by rw [RepX] at h; subst h; cases (show u = Value.bool b from r); rw [pd]; exact ⟨[], .bool b, fun _ => by simp⟩
 | .int i, v, u, h, r => by rw [RepX] at h; subst h; obtain ⟨t, e⟩ := (show ∃ t, u = Value.int i t from r); subst e; rw [pd]; exact ⟨[], .int i t, fun _ => by simp⟩
 | .str x, v, u, h, r => by rw [RepX] at h; obtain ⟨rfl, _⟩ := h; obtain ⟨t, e⟩ := (show ∃ t, u = Value.str x t from r); subst e; rw [pd]; exact ⟨[], .str x t, fun _ => by simp⟩
 | .lst ds, v, u, h, r => by
  rw [RepX] at h
  obtain ⟨a, xs, rfl, h1, _, h2⟩ := h
  cases (show u = Value.ref a from r)
  obtain ⟨_, its, n, rv, hg⟩ := (show ObjOk X.prog X.w H s.heap a (.lst xs) from I.hok a _ h1)
  obtain ⟨as, ra, _⟩ := zde I ds h2 rv
  rw [pd]
  exact ⟨a :: as, .list hg rfl rfl ra, fun z => by cases z⟩
 | .tup ds, v, u, h, r => by
  rw [RepX] at h
  obtain ⟨a, xs, rfl, h1, _, h2⟩ := h
  cases (show u = Value.ref a from r)
  obtain ⟨_, its, rv, o, hg, hc, _, n, hd⟩ := (show ObjOk X.prog X.w H s.heap a (.tup xs) from I.hok a _ h1)
  obtain ⟨as, ra, _⟩ := zde I ds h2 rv
  rw [pd]
  exact ⟨as, .tuple hg hc hd ra, fun z => by cases z⟩
 | .dic, v, u, h, r => by
  rw [RepX] at h
  obtain ⟨a, rfl, h1⟩ := h
  cases (show u = Value.ref a from r)
  obtain ⟨_, hS, vs, rk, o, es, ep, hg, hx, hd, hk, hp, _⟩ := zee I.hok h1
  cases rk
  have ee : es.toList = [] := by
   cases z : es.toList with
   | nil => rfl
   | cons y ys => rw [z] at hp; cases hp
  rw [pd]
  refine ⟨a :: [] ++ [], .dict (kvs := []) hg hx.1 hd (by rw [ee]; exact .nil) (by rw [ee]; exact .nil), fun _ z => ?_⟩
  simp at z
  rw [← z] at hS
  simp at hS
theorem zde (I : Inv X pins σ H s) : ∀ (ds : List DX) {xs : List V} {us : List Value}, RepXs H ds xs → Vals xs us → ∃ as, ReadsAll s.heap us (pds ds) as ∧ ((∀ d ∈ ds, zj5 d = true) → sysModules ∉ as)
 | [], xs, us, h, r => by rw [RepXs] at h; subst h; cases r; rw [pds]; exact ⟨[], .nil, fun _ => by simp⟩
 | d :: ds, xs, us, h, r => by
  rw [RepXs] at h
  obtain ⟨x, ys, rfl, h1, h2⟩ := h
  cases r with
  | cons r1 r2 =>
   obtain ⟨as, ra, na⟩ := zbo I d h1 r1
   obtain ⟨bs, rb, nb⟩ := zde I ds h2 r2
   rw [pds]
   refine ⟨as ++ bs, .cons ra rb, fun z w => ?_⟩
   rcases List.mem_append.mp w with w | w
   · exact na (z d (List.mem_cons_self ..)) w
   · exact nb (fun e he => z e (List.mem_cons_of_mem _ he)) w
end
end
section
variable {X : Cx}
end
section
variable {X : Cx} {pins : List (Addr × Obj)} {σ : St} {H : Hp} {s : Shared}
mutual
theorem shK (I : Inv X pins σ H s) : ∀ (d : DX) {v : V} {u : Value}, RepX H d v → RelV v u → (pd d).showable = true → (pd d).shown.length ≤ sizeLine → ∃ bs, ReadAtMost s.heap (pd d).depth bs ∧ ReprK X.prog X.w bs s.heap (pd d).depth u (pd d).shown
 | .non, v, u, h, r, hs, hz => let ⟨as, ra, na⟩ := zbo I _ h r; ReprK.of_reads ra hs (fun _ => na rfl) hz
 | .bl _, v, u, h, r, hs, hz => let ⟨as, ra, na⟩ := zbo I _ h r; ReprK.of_reads ra hs (fun _ => na rfl) hz
 | .int _, v, u, h, r, hs, hz => let ⟨as, ra, na⟩ := zbo I _ h r; ReprK.of_reads ra hs (fun _ => na rfl) hz
 | .str _, v, u, h, r, hs, hz => let ⟨as, ra, na⟩ := zbo I _ h r; ReprK.of_reads ra hs (fun _ => na rfl) hz
 | .dic, v, u, h, r, hs, hz => let ⟨as, ra, na⟩ := zbo I _ h r; ReprK.of_reads ra hs (fun _ => na rfl) hz
 | .lst ds, v, u, h, r, hs, hz => by
  obtain ⟨as, ra, _⟩ := zbo I _ h r
  rw [RepX] at h
  obtain ⟨a, xs, rfl, h1, _, h2⟩ := h
  cases (show u = Value.ref a from r)
  obtain ⟨_, its, n, rv, hg⟩ := (show ObjOk X.prog X.w H s.heap a (.lst xs) from I.hok a _ h1)
  rw [pd] at ra hs hz ⊢
  have hz' : (listText (PyData.shownAll (pds ds))).length ≤ sizeLine := by simpa only [PyData.shown] using hz
  obtain ⟨bs, hb, hk⟩ := shKs I ds h2 rv (by simpa [PyData.showable] using hs) (fun t ht => Nat.le_trans (listText_mem_le ht) hz')
  have hna : a ∉ bs := not_mem_of_deeper ra (by simp only [PyData.depth]; omega) hb
  refine ⟨a :: bs, ReadAtMost.cons ra (by simp only [PyData.depth]; omega) hb, ?_⟩
  simp only [PyData.depth, PyData.shown]
  cases its with
  | nil =>
   have e := hk.length_eq
   cases z : PyData.shownAll (pds ds) with
   | nil => rw [listText_nil]; exact ReprK.listEmpty hg rfl rfl
   | cons y ys => rw [z] at e; cases e
  | cons x l => exact ReprK.list hg rfl rfl hna (by simpa using hk.length_eq) (fun i y e => hk.item i y (by simpa using e))
 | .tup ds, v, u, h, r, hs, hz => by
  obtain ⟨as, ra, _⟩ := zbo I _ h r
  rw [RepX] at h
  obtain ⟨a, xs, rfl, h1, _, h2⟩ := h
  cases (show u = Value.ref a from r)
  obtain ⟨_, its, rv, o, hg, hc, _, n, hd⟩ := (show ObjOk X.prog X.w H s.heap a (.tup xs) from I.hok a _ h1)
  rw [pd] at ra hs hz ⊢
  have hz' : (tupleText (PyData.shownAll (pds ds))).length ≤ sizeLine := by simpa only [PyData.shown] using hz
  obtain ⟨bs, hb, hk⟩ := shKs I ds h2 rv (by simpa [PyData.showable] using hs) (fun t ht => Nat.le_trans (tupleText_mem_le ht) hz')
  have hna : a ∉ bs := not_mem_of_deeper ra (by simp only [PyData.depth]; omega) hb
  refine ⟨a :: bs, ReadAtMost.cons ra (by simp only [PyData.depth]; omega) hb, ?_⟩
  simp only [PyData.depth, PyData.shown]
  exact ReprK.tuple hg hc hd hna hk
theorem shKs (I : Inv X pins σ H s) : ∀ (ds : List DX) {xs : List V} {us : List Value}, RepXs H ds xs → Vals xs us → PyData.showableAll (pds ds) = true → (∀ t ∈ PyData.shownAll (pds ds), t.length ≤ sizeLine) →
 ∃ bs, ReadAtMost s.heap (PyData.depthAll (pds ds)) bs ∧ ReprAllK X.prog X.w bs s.heap (PyData.depthAll (pds ds)) us (PyData.shownAll (pds ds))
 | [], xs, us, h, r, _, _ => by
  rw [RepXs] at h
  subst h
  cases r
  rw [pds]
  exact ⟨[], (fun _ h => nomatch h), by simp only [PyData.shownAll]; exact .nil⟩
 | d :: ds, xs, us, h, r, hs, hz => by
  rw [RepXs] at h
  obtain ⟨x, ys, rfl, h1, h2⟩ := h
  rw [pds] at hs hz ⊢
  have hs' : (pd d).showable = true ∧ PyData.showableAll (pds ds) = true := by simpa [PyData.showableAll] using hs
  cases r with
  | cons r1 r2 =>
   obtain ⟨b1, hb1, k1⟩ := shK I d h1 r1 hs'.1 (hz _ (by simp only [PyData.shownAll]; exact List.mem_cons_self ..))
   obtain ⟨b2, hb2, k2⟩ := shKs I ds h2 r2 hs'.2 (fun t ht => hz t (by simp only [PyData.shownAll]; exact List.mem_cons_of_mem _ ht))
   refine ⟨b1 ++ b2, ?_, ?_⟩
   · simp only [PyData.depthAll]
     exact (hb1.mono (Nat.le_max_left _ _)).append (hb2.mono (Nat.le_max_right _ _))
   · simp only [PyData.depthAll, PyData.shownAll]
     exact .cons ((k1.more fun b hb => List.mem_append_left _ hb).level_le (Nat.le_max_left _ _)) (k2.more_le (fun b hb => List.mem_append_right _ hb) (Nat.le_max_right _ _))
end
end
open PySem.AutoSeq1 (wpAny_loadPart')
open PySem.MeetsSeq PySem.MeetsSeq2 PySem.MeetsSeq3 PySem.SeqRoads2
def EqIn (P : Program) (w : World) (A : Around) (s : Shared) (y x : Value) : Prop := ∀ (E : Value → Shared → Prop) (Q : Bool → Shared → Prop), Q true s → wpAny (model P w) A (eqBool y x) Q E s
theorem EqIn.of {P : Program} {w : World} {A : Around} {s : Shared} {y x : Value} (h : SeqAt.EqAt A s y x true) : EqIn P w A s y x := fun E Q q => h P w E Q q
section
variable {P : Program} {w : World}
theorem zfG (l b : Addr) (items items2 : Array Value) (n n2 : Nat) (dd dd2 : Option Addr) (sl sl2 : Array (Option Value)) (hsz : items.size = items2.size) (k : Nat) :
 ∀ i : Nat, items.size - i = k → ∀ (A : Around) (R : Result → Shared → Prop) (s : Shared), s.heap.get? l = some { cls := .type "list", dict := dd, data := .seq items n, slots := sl } → s.heap.get? b = some { cls := .type "list", dict := dd2, data := .seq items2 n2, slots := sl2 } →
  (∀ j (h1 : j < items.size) (h2 : j < items2.size), EqIn P w A.in1 s items[j] items2[j]) → R (.ok (.ret (.bool true))) s →
  wpAny (model P w) A.in1 (Builtin.«list.__eq__.loop» ⟨[.ref l, .ref b, rawInt i, rawInt 2], []⟩) (fun fin s' => match fin with | .done f => R (.ok f) s' | .again c' => c'.quiet = true ∧ codeAny (model P w) A c' R s') (fun e s' => R (.error e) s') s := by
 induction k with
 | zero =>
  intro i hk A R s hl hb he h
  obtain ⟨hp, g, d, tk, os⟩ := s
  wp_walk using wpAny_loadPart' hl, wpAny_loadPart' hb
  have o1 : items[((i : Nat) : Int).toNat]? = none := by simp; omega
  have o2 : items2[((i : Nat) : Int).toNat]? = none := by simp; omega
  rw [o1, o2]
  wp_walk using wpAny_loadPart' hl, wpAny_loadPart' hb
  show R (.ok (.ret (.bool (items.size == items2.size)))) _
  rw [hsz]
  simpa using h
 | succ k ih =>
  intro i hk A R s hl hb he h
  obtain ⟨hp, g, d, tk, os⟩ := s
  wp_walk using wpAny_loadPart' hl, wpAny_loadPart' hb
  have lt1 : i < items.size := by omega
  have lt2 : i < items2.size := by omega
  have o1 : items[((i : Nat) : Int).toNat]? = some items[i] := by simp [lt1]
  have o2 : items2[((i : Nat) : Int).toNat]? = some items2[i] := by simp [lt2]
  have hc : ((i : Int) + 1) = ((i + 1 : Nat) : Int) := by push_cast; rfl
  rw [o1, o2]
  refine wpAny_bind (he i lt1 lt2 _ _ ?_)
  wp_walk
  rw [hc]
  exact ⟨plainId_quiet plain_eq_loop _, codeAny_builtin entry_eq_loop (by
   rw [Around.under_plainId plain_eq_loop _]
   exact ih (i + 1) (by omega) A R _ hl hb he h)⟩
theorem zj0 (l b : Addr) (items items2 : Array Value) (n n2 : Nat) (dd dd2 : Option Addr) (sl sl2 : Array (Option Value)) (hsz : items.size = items2.size) (A : Around) (R : Result → Shared → Prop) (s : Shared)
 (hl : s.heap.get? l = some { cls := .type "list", dict := dd, data := .seq items n, slots := sl }) (hb : s.heap.get? b = some { cls := .type "list", dict := dd2, data := .seq items2 n2, slots := sl2 })
 (he : ∀ j (h1 : j < items.size) (h2 : j < items2.size), EqIn P w A.in1 s items[j] items2[j]) (h : R (.ok (.ret (.bool true))) s) :
 wpAny (model P w) A.in1 (Builtin.«list.__eq__» ⟨[.ref l, .ref b], []⟩) (fun fin s' => match fin with | .done f => R (.ok f) s' | .again c' => c'.quiet = true ∧ codeAny (model P w) A c' R s') (fun e s' => R (.error e) s') s := by
 obtain ⟨hp, g, d, tk, os⟩ := s
 have f3 := AutoSeq1.sub_list_list
 have hne : ¬ (items.size != items2.size) = true := by simp [hsz]
 wp_walk using wpAny_loadPart' hl, wpAny_loadPart' hb
 exact ⟨plainId_quiet plain_eq_loop _, codeAny_builtin entry_eq_loop (by
  rw [Around.under_plainId plain_eq_loop _]
  exact zfG l b items items2 n n2 dd dd2 sl sl2 hsz _ 0 rfl A R _ hl hb he h)⟩
theorem zg3 {l b : Addr} {items items2 : Array Value} {A : Around} {s : Shared} {E : Value → Shared → Prop} {Q : Value → Shared → Prop} (hl : s.heap.IsList l items) (hb : s.heap.IsList b items2) (hsz : items.size = items2.size) (hu : A.units < cLine)
 (he : ∀ j (h1 : j < items.size) (h2 : j < items2.size), EqIn P w A.in1 s items[j] items2[j]) (h : Q (.bool true) s) : wpAny (model P w) A (richCompare .Eq (.ref l) (.ref b)) Q E s := by
 obtain ⟨⟨c1, dd, data, sl⟩, ho, hc, n, hd⟩ := id hl
 obtain ⟨⟨c2, dd2, data2, sl2⟩, ho2, hc2, n2, hd2⟩ := id hb
 simp only at hc hd hc2 hd2
 subst hc hd hc2 hd2
 refine wpAny_richCompare_same_room (op := .Eq) ⟨_, ho, rfl⟩ ⟨_, ho2, rfl⟩ F.slot_list_eq ?_ hu
 refine wpAny_call (codeAny_call_builtin F.slot_list_eq.plain F.entry_list_eq (F.slot_list_eq.check _ _ _ _ _ _ _ _ ⟨_, ho, rfl⟩ (F.args_list_eq_2 _ _) ?_))
 exact zj0 l b items items2 n n2 dd dd2 sl sl2 hsz A (wants (fun v s' => v ≠ .notImplemented ∧ Q v s') E) s ho ho2 he (show Value.bool true ≠ Value.notImplemented ∧ Q (.bool true) s from ⟨(fun x => nomatch x), h⟩)
theorem zfV {l b : Addr} {items items2 : Array Value} {A : Around} {s : Shared} {E : Value → Shared → Prop} {Q : Value → Shared → Prop} (hl : s.heap.IsTuple l items) (hb : s.heap.IsTuple b items2) (hsz : items.size = items2.size) (hu : A.units < cLine)
 (he : ∀ j (h1 : j < items.size) (h2 : j < items2.size), EqIn P w A.in1 s items[j] items2[j]) (h : Q (.bool true) s) : wpAny (model P w) A (richCompare .Eq (.ref l) (.ref b)) Q E s := by
 obtain ⟨⟨c1, dd, data, sl⟩, ho, hc, n, hd⟩ := id hl
 obtain ⟨⟨c2, dd2, data2, sl2⟩, ho2, hc2, n2, hd2⟩ := id hb
 simp only at hc hd hc2 hd2
 subst hc hd hc2 hd2
 refine wpAny_richCompare_same_room (op := .Eq) ⟨_, ho, rfl⟩ ⟨_, ho2, rfl⟩ F.slot_tuple_eq (wpAny_call_entry F.slot_tuple_eq ⟨_, ho, rfl⟩ F.entry_tuple_eq ?_ (F.args_tuple_eq_2 _ _)) hu
 obtain ⟨hp, g, d, tk, os⟩ := s
 have f2 := AutoSeq1.sub_tuple_tuple
 have hZ : (items.toList.zip items2.toList).length = items.size := by simp [hsz]
 wp_walk using wpAny_loadPart' ho, wpAny_loadPart' ho2, wpAny_forIn_list _ (fun rest b s' => b.1 = none ∧ s' = ⟨hp, g, d, tk, os⟩ ∧ ∃ i, rest = (items.toList.zip items2.toList).drop i) _
 case turn =>
  rintro ⟨y, x⟩ rest b s' ⟨hb', rfl, i, hz⟩
  have lt0 : i < (items.toList.zip items2.toList).length := by
   rcases Nat.lt_or_ge i (items.toList.zip items2.toList).length with h' | h'
   · exact h'
   · rw [List.drop_of_length_le h'] at hz; cases hz
  have h1 : i < items.size := hZ ▸ lt0
  have h2 : i < items2.size := hsz ▸ h1
  rw [List.drop_eq_getElem_cons lt0] at hz
  injection hz with hyx hrest
  have hy : y = items[i] := by have := congrArg Prod.fst hyx; simpa using this
  have hx : x = items2[i] := by have := congrArg Prod.snd hyx; simpa using this
  subst hy hx
  refine wpAny_bind (he i h1 h2 _ _ ?_)
  wp_walk
  exact ⟨rfl, rfl, i + 1, hrest⟩
 case fin =>
  rintro ⟨b1, b2⟩ s' ⟨hb', rfl, i, hz⟩
  simp only at hb'
  subst hb'
  wp_walk
  refine ⟨_, rfl, ?_⟩
  have e : Builtin.Tuple.tupleCompareSizes .Eq items.size items2.size = Value.bool true := by simp [Builtin.Tuple.tupleCompareSizes, hsz]
  first | (rw [e]; exact ⟨(fun x => nomatch x), h⟩) | (simpa [Builtin.Tuple.tupleCompareSizes, hsz] using h)
 case h => exact ⟨rfl, rfl, 0, rfl⟩
end
end L2
namespace L2
open PySem PySem.Spec PyProof.Rows PySem.Calls
section
variable {P : Program} {w : World} {κ : Type} [DecidableEq κ] {knd : KeyKind P w κ} {A : Around} {E : Value → Shared → Prop} {s : Shared}
theorem zfP {nm : String} {a b : Addr} {ka kb : List (κ × Value)} {Q : Bool → Shared → Prop} (ha : (a == sysModules) = false) (hb : (b == sysModules) = false)
 (da : s.heap.DictOf knd a ka) (db : s.heap.DictOf knd b kb) (hlen : ka.length = kb.length) (hits : ∀ (i : Nat) (k : κ) (v : Value), ka[i]? = some (k, v) → ∃ y, valueAt kb k = some y ∧ EqIn P w A s v y) (h : Q true s) :
 wpAny (model P w) A (Builtin.Dict.samePairs nm a b) Q E s := by
 obtain ⟨o1, m1, p1, g1, _, d1, q1, z1, _⟩ := da
 obtain ⟨o2, m2, p2, g2, _, d2, q2, z2, _⟩ := db
 have n1 : ka.length = m1.size := by rw [← z1.length]; exact Array.length_toList
 have n2 : kb.length = m2.size := by rw [← z2.length]; exact Array.length_toList
 have look : ∀ k, findBy knd.is m2 k = valueAt kb k := fun k => by
  rw [← z2.find k]
  clear n2 z2 q2 d2 g2
  obtain ⟨l⟩ := m2
  simp [findBy]
 have same : m1.size = m2.size := by omega
 unfold Builtin.Dict.samePairs Builtin.Dict.showsAll
 rw [if_neg (by rw [ha]; exact Bool.false_ne_true), if_neg (by rw [hb]; exact Bool.false_ne_true)]
 refine wpAny_bind (wpAny_pure (wpAny_bind (wpAny_pure (wpAny_bind (wpAny_dictEntries g1 d1 ?_)))))
 dsimp only
 refine wpAny_bind (wpAny_dictEntries g2 d2 ?_)
 rw [if_neg (by rw [same]; simp)]
 refine wpAny_bind (wpAny_dictEpoch g1 d1 (wpAny_bind ?_))
 rw [Std.Legacy.Range.forIn_eq_forIn_range']
 simp only [Std.Legacy.Range.size, Nat.sub_zero, Nat.add_sub_cancel, Nat.div_one]
 refine wpAny_forIn_list _ (fun rest q s' => s' = s ∧ q = (none, ()) ∧ ∃ i, rest = List.range' i (m1.size - i) ∧ i ≤ m1.size) _ ?_ ?_ _ _ ⟨rfl, rfl, 0, by simp, Nat.zero_le _⟩
 · rintro x rest q s' ⟨rfl, rfl, i, hr, hi⟩
   have lt0 : i < m1.size := by
    rcases Nat.lt_or_ge i m1.size with z | z
    · exact z
    · rw [Nat.sub_eq_zero_of_le z] at hr; simp at hr
   obtain ⟨rfl, ht⟩ : x = i ∧ rest = List.range' (i + 1) (m1.size - (i + 1)) := by
    have e : m1.size - i = (m1.size - (i + 1)) + 1 := by omega
    rw [e, List.range'_succ] at hr
    injection hr with z1 z2
    exact ⟨z1, z2⟩
   refine wpAny_bind (wpAny_dictEntries g1 d1 ?_)
   rw [Array.getElem?_eq_getElem lt0]
   have lt1 : x < ka.length := by omega
   obtain ⟨k, v, kv⟩ : ∃ k v, ka[x] = (k, v) := ⟨_, _, rfl⟩
   have kv' : ka[x]? = some (k, v) := by rw [List.getElem?_eq_getElem lt1, kv]
   obtain ⟨hkey, hval⟩ := z1.get? (i := x) (e := m1[x]) (k := k) (v := v) (by rw [Array.getElem?_toList]; exact Array.getElem?_eq_getElem lt0) kv'
   obtain ⟨k', hk', hh⟩ := q1 m1[x] (Array.getElem_mem lt0)
   have ekk : k' = k := knd.inj _ _ _ hk' hkey
   rw [ekk] at hh
   obtain ⟨y, hy, he⟩ := hits x k v kv'
   show wpAny _ _ (holding [m1[x].key, m1[x].val] _ >>= _) _ _ _
   rw [hh]
   refine wpAny_bind (wpAny_holding (wpAny_bind (wpAny_dictFind_of hkey g2 d2 q2 ?_)))
   cases hj : m2.findIdx? fun e => knd.is k e.key with
   | none =>
    have : valueAt kb k = none := by rw [← look k, findBy_of_findIdx?, hj]
    rw [this] at hy; cases hy
   | some j =>
    obtain ⟨jlt, _, _⟩ := Array.findIdx?_eq_some_iff_getElem.mp hj
    have hv' : valueAt kb k = some m2[j].val := by
     rw [← look k, findBy_of_findIdx?, hj]
     simp [Array.getElem?_eq_getElem jlt]
    refine wpAny_bind (wpAny_dictEntries g2 d2 ?_)
    rw [Array.getElem?_eq_getElem jlt]
    have ey : m2[j].val = y := Option.some.inj (hv'.symm.trans hy)
    rw [← ey, ← hval] at he
    refine wpAny_holding (he _ _ ?_)
    show wpAny _ _ (if (!true) = true then _ else _) _ _ _
    rw [if_neg (by decide)]
    refine wpAny_bind (wpAny_dictEpoch g1 d1 ?_)
    rw [if_neg (by simp)]
    exact wpAny_pure ⟨rfl, rfl, x + 1, ht, lt0⟩
 · rintro q s' ⟨rfl, rfl, i, hr, hi⟩
   exact wpAny_pure h
theorem zd3 {a b : Addr} {ka kb : List (κ × Value)} {Q : Value → Shared → Prop} (ha : (a == sysModules) = false) (hb : (b == sysModules) = false)
 (da : s.heap.DictOf knd a ka) (db : s.heap.DictOf knd b kb) (hu : A.units < cLine) (hlen : ka.length = kb.length) (hits : ∀ (i : Nat) (k : κ) (v : Value), ka[i]? = some (k, v) → ∃ y, valueAt kb k = some y ∧ EqIn P w A.in1 s v y) (h : Q (.bool true) s) :
 wpAny (model P w) A (richCompare .Eq (.ref a) (.ref b)) Q E s := by
 refine wpAny_richCompare_same_room (op := .Eq) da.typeIs db.typeIs PySem.F.slot_dict_eq (wpAny_call_entry PySem.F.slot_dict_eq da.typeIs PySem.F.entry_dict_eq ?_ (PySem.F.args_dict_eq_2 _ _)) hu
 show wpAny _ _ (Builtin.Dict.dictSlotArgs "__eq__" ⟨[.ref a, .ref b], []⟩ >>= _) _ _ s
 unfold Builtin.Dict.dictSlotArgs
 refine wpAny_bind (wpAny_bind (wpAny_notOrdered_dict da.typeIs ?_))
 show wpAny _ _ (pure (Value.ref a, Value.ref b)) _ _ s
 refine wpAny_pure (wpAny_bind (wpAny_isInstance (T := "dict") db.typeIs PySem.F.sub_dict_dict ?_))
 simp only [Bool.not_true, Bool.false_eq_true, if_false]
 refine wpAny_bind (wpAny_pure (wpAny_bind (wpAny_pure (wpAny_bind (zfP ha hb da db hlen hits ?_)))))
 exact wpAny_pure ⟨_, rfl, (fun x => nomatch x), by simpa using h⟩
end
end L2
namespace L2
open PySem PySem.Spec PyProof.Rows
inductive DY where
 | non
 | bl (b : Bool)
 | int (i : Int)
 | str (x : Str)
 | lst (ds : List DY)
 | tup (ds : List DY)
 | dic
 | da (d : DY)
mutual
def RepY (H : Hp) : DY → V → Prop
 | .non, v => v = .non
 | .bl b, v => v = .bl b
 | .int i, v => v = .int i
 | .str x, v => v = .str x ∧ x.length ≤ 900
 | .lst ds, v => ∃ a xs, v = .ref a ∧ H a = some (.lst xs) ∧ ds.length ≤ 900 ∧ RepYs H ds xs
 | .tup ds, v => ∃ a xs, v = .ref a ∧ H a = some (.tup xs) ∧ ds.length ≤ 900 ∧ RepYs H ds xs
 | .dic, v => ∃ a, v = .ref a ∧ H a = some (.dK [])
 | .da d, v => ∃ a u, v = .ref a ∧ H a = some (.dK [(.inr "a", u)]) ∧ RepY H d u
def RepYs (H : Hp) : List DY → List V → Prop
 | [], xs => xs = []
 | d :: ds, xs => ∃ x r, xs = x :: r ∧ RepY H d x ∧ RepYs H ds r
end
mutual
theorem RepY.same {H H' : Hp} (s : Same H H') : ∀ (d : DY) {v : V}, RepY H d v → RepY H' d v
 | .non, v, h => by rw [RepY] at *; exact h
 | .bl b, v, h => by rw [RepY] at *; exact h
 | .int i, v, h => by rw [RepY] at *; exact h
 | .str x, v, h => by rw [RepY] at *; exact h
 | .lst ds, v, h => by rw [RepY] at *; obtain ⟨a, xs, e, h1, h0, h2⟩ := h; exact ⟨a, xs, e, s _ _ h1, h0, RepYs.same s ds h2⟩
 | .tup ds, v, h => by rw [RepY] at *; obtain ⟨a, xs, e, h1, h0, h2⟩ := h; exact ⟨a, xs, e, s _ _ h1, h0, RepYs.same s ds h2⟩
 | .dic, v, h => by rw [RepY] at *; obtain ⟨a, e, h1⟩ := h; exact ⟨a, e, s _ _ h1⟩
 | .da d, v, h => by rw [RepY] at *; obtain ⟨a, u, e, h1, h2⟩ := h; exact ⟨a, u, e, s _ _ h1, RepY.same s d h2⟩
theorem RepYs.same {H H' : Hp} (s : Same H H') : ∀ (ds : List DY) {xs : List V}, RepYs H ds xs → RepYs H' ds xs
 | [], xs, h => by rw [RepYs] at *; exact h
 | d :: ds, xs, h => by rw [RepYs] at *; obtain ⟨x, r, e, h1, h2⟩ := h; exact ⟨x, r, e, RepY.same s d h1, RepYs.same s ds h2⟩
end
theorem RepYs.length {H : Hp} : ∀ {ds : List DY} {xs : List V}, RepYs H ds xs → xs.length = ds.length
 | [], xs, h => by rw [RepYs] at h; rw [h]; rfl
 | d :: ds, xs, h => by
  rw [RepYs] at h
  obtain ⟨x, r, rfl, _, h⟩ := h
  rw [List.length_cons, List.length_cons, RepYs.length h]
theorem RepYs.get {H : Hp} : ∀ {ds : List DY} {xs : List V} {i : Nat} {x : V}, RepYs H ds xs → xs[i]? = some x → ∃ d, ds[i]? = some d ∧ RepY H d x
 | [], xs, i, x, h, e => by rw [RepYs] at h; subst h; simp at e
 | d :: ds, xs, 0, x, h, e => by
  rw [RepYs] at h
  obtain ⟨y, r, rfl, h1, h2⟩ := h
  simp at e
  subst e
  exact ⟨d, rfl, h1⟩
 | d :: ds, xs, i + 1, x, h, e => by
  rw [RepYs] at h
  obtain ⟨y, r, rfl, h1, h2⟩ := h
  simp at e
  obtain ⟨d', e1, e2⟩ := RepYs.get h2 e
  exact ⟨d', by simpa using e1, e2⟩
mutual
def zaO : DY → Nat
 | .lst ds => za3 ds + 1
 | .tup ds => za3 ds + 1
 | .da d => zaO d + 1
 | _ => 0
def za3 : List DY → Nat
 | [] => 0
 | d :: ds => max (zaO d) (za3 ds)
end
section
variable {X : Cx} {pins : List (Addr × Obj)} {σ : St} {H : Hp} {s : Shared}
theorem zcD {P : Program} {w : World} {A : Around} {l b : Addr} (h : ∀ (E : Value → Shared → Prop) (Q : Value → Shared → Prop), Q (.bool true) s → wpAny (model P w) A (richCompare .Eq (.ref l) (.ref b)) Q E s) : EqIn P w A s (.ref l) (.ref b) := fun E Q hq => by
 by_cases e : l = b
 · subst e
   exact SeqAt.EqAt.same (.ref l) P w E Q hq
 · unfold eqBool
   refine wpAny_holding ?_
   refine wpAny_ite_split (fun hab => absurd (by have := eq_of_beq hab; injection this) e) (fun _ => ?_)
   exact wpAny_bind (h E _ (wpAny_truthy_bool hq))
mutual
theorem zed (I : Inv X pins σ H s) : ∀ (A : Around) (d : DY) (v v' : V) (u u' : Value), RepY H d v → RepY H d v' → RelV v u → RelV v' u' → A.units + zaO d < cLine → EqIn X.prog X.w A s u u'
 | A, .non, v, v', u, u', h, h', r, r', z => by
  rw [RepY] at h h'
  subst h h'
  exact EqIn.of (zbO I A .non .non _ _ _ _ (by rw [Rep]) (by rw [Rep]) r r' (show A.units + 0 < cLine by omega))
 | A, .bl b, v, v', u, u', h, h', r, r', z => by
  rw [RepY] at h h'
  subst h h'
  have := zbO I A (.bl b) (.bl b) _ _ _ _ (by rw [Rep]) (by rw [Rep]) r r' (show A.units + 0 < cLine by omega)
  rw [zaX] at this
  exact EqIn.of this
 | A, .int b, v, v', u, u', h, h', r, r', z => by
  rw [RepY] at h h'
  subst h h'
  have := zbO I A (.int b) (.int b) _ _ _ _ (by rw [Rep]) (by rw [Rep]) r r' (show A.units + 0 < cLine by omega)
  rw [zaX] at this
  exact EqIn.of this
 | A, .str b, v, v', u, u', h, h', r, r', z => by
  rw [RepY] at h h'
  obtain ⟨rfl, _⟩ := h
  obtain ⟨rfl, _⟩ := h'
  have := zbO I A (.str b) (.str b) _ _ _ _ (by rw [Rep]) (by rw [Rep]) r r' (show A.units + 0 < cLine by omega)
  rw [zaX] at this
  exact EqIn.of this
 | A, .lst ds, v, v', u, u', h, h', r, r', z => by
  rw [RepY] at h h'
  obtain ⟨a, xs, rfl, h1, _, h2⟩ := h
  obtain ⟨a', xs', rfl, h1', _, h2'⟩ := h'
  cases (show u = Value.ref a from r)
  cases (show u' = Value.ref a' from r')
  obtain ⟨_, its, n, rv, hg⟩ := (show ObjOk X.prog X.w H s.heap a (.lst xs) from I.hok a _ h1)
  obtain ⟨_, its', n', rv', hg'⟩ := (show ObjOk X.prog X.w H s.heap a' (.lst xs') from I.hok a' _ h1')
  have l1 := h2.length
  have l2 := h2'.length
  have l3 := rv.length
  have l4 := rv'.length
  rw [zaO] at z
  refine zcD fun E Q q => zg3 ⟨_, hg, rfl, _, rfl⟩ ⟨_, hg', rfl, _, rfl⟩ (by simp only [List.size_toArray]; omega) (by omega) (fun j k1 k2 => ?_) q
  have := zb2 I A.in1 ds xs xs' its its' h2 h2' rv rv' (by rw [Around.in1_units]; omega) j (by simpa using k1) (by simpa using k2)
  simpa using this
 | A, .tup ds, v, v', u, u', h, h', r, r', z => by
  rw [RepY] at h h'
  obtain ⟨a, xs, rfl, h1, _, h2⟩ := h
  obtain ⟨a', xs', rfl, h1', _, h2'⟩ := h'
  cases (show u = Value.ref a from r)
  cases (show u' = Value.ref a' from r')
  obtain ⟨_, its, rv, o, hg, hc, _, n, hd⟩ := (show ObjOk X.prog X.w H s.heap a (.tup xs) from I.hok a _ h1)
  obtain ⟨_, its', rv', o', hg', hc', _, n', hd'⟩ := (show ObjOk X.prog X.w H s.heap a' (.tup xs') from I.hok a' _ h1')
  have l1 := h2.length
  have l2 := h2'.length
  have l3 := rv.length
  have l4 := rv'.length
  rw [zaO] at z
  refine zcD fun E Q q => zfV ⟨_, hg, hc, _, hd⟩ ⟨_, hg', hc', _, hd'⟩ (by simp only [List.size_toArray]; omega) (by omega) (fun j k1 k2 => ?_) q
  have := zb2 I A.in1 ds xs xs' its its' h2 h2' rv rv' (by rw [Around.in1_units]; omega) j (by simpa using k1) (by simpa using k2)
  simpa using this
 | A, .dic, v, v', u, u', h, h', r, r', z => by
  rw [RepY] at h h'
  obtain ⟨a, rfl, h1⟩ := h
  obtain ⟨a', rfl, h1'⟩ := h'
  cases (show u = Value.ref a from r)
  cases (show u' = Value.ref a' from r')
  obtain ⟨_, hS, vs, rk, dd⟩ := zee I.hok h1
  obtain ⟨_, hS', vs', rk', dd'⟩ := zee I.hok h1'
  cases rk
  cases rk'
  exact zcD fun E Q q => zd3 hS hS' dd dd' (by omega) rfl (fun i k v e => by simp at e) q
 | A, .da d, v, v', u, u', h, h', r, r', z => by
  rw [RepY] at h h'
  obtain ⟨a, y, rfl, h1, h2⟩ := h
  obtain ⟨a', y', rfl, h1', h2'⟩ := h'
  cases (show u = Value.ref a from r)
  cases (show u' = Value.ref a' from r')
  obtain ⟨_, hS, vs, rk, dd⟩ := zee I.hok h1
  obtain ⟨_, hS', vs', rk', dd'⟩ := zee I.hok h1'
  rw [zaO] at z
  have l1 : 1 = vs.length := KV.length rk
  have l2 : 1 = vs'.length := KV.length rk'
  refine zcD fun E Q q => zd3 hS hS' dd dd' (by omega) (by omega) (fun i k w e => ?_) q
  cases rk with
  | cons p1 p2 =>
   cases p2
   cases rk' with
   | cons p1' p2' =>
    cases p2'
    rename_i kw kw'
    obtain ⟨k0, w0⟩ := kw
    obtain ⟨k0', w0'⟩ := kw'
    obtain ⟨e1, r1⟩ := p1
    obtain ⟨e1', r1'⟩ := p1'
    dsimp only at e1 e1' r1 r1'
    subst e1 e1'
    cases i with
    | succ i => simp at e
    | zero =>
     simp at e
     obtain ⟨rfl, rfl⟩ := e
     refine ⟨w0', by simp [valueAt], zed I A.in1 d y y' w0 w0' h2 h2' r1 r1' (by rw [Around.in1_units]; omega)⟩
theorem zb2 (I : Inv X pins σ H s) : ∀ (A : Around) (ds : List DY) (vs ws : List V) (us ys : List Value), RepYs H ds vs → RepYs H ds ws → Vals vs us → Vals ws ys → A.units + za3 ds < cLine →
 ∀ (j : Nat) (h1 : j < us.length) (h2 : j < ys.length), EqIn X.prog X.w A s us[j] ys[j]
 | A, [], vs, ws, us, ys, h, h', r, r', z => by
  rw [RepYs] at h
  subst h
  cases r
  intro j h1
  simp at h1
 | A, d :: ds, vs, ws, us, ys, h, h', r, r', z => by
  rw [RepYs] at h h'
  obtain ⟨x, q, rfl, g1, g2⟩ := h
  obtain ⟨x', q', rfl, g1', g2'⟩ := h'
  rw [za3] at z
  cases r with
  | cons r1 r2 =>
   cases r' with
   | cons r1' r2' =>
    intro j h1 h2
    cases j with
    | zero => exact zed I A d x x' _ _ g1 g1' r1 r1' (by omega)
    | succ j => exact zb2 I A ds q q' _ _ g2 g2' r2 r2' (by omega) j (by simpa using h1) (by simpa using h2)
end
end
section
variable {X : Cx} {pins : List (Addr × Obj)} {σ : St} {H : Hp} {s : Shared}
theorem zh6 (I : Inv X pins σ H s) (A : Around) (d : DY) (v v' : V) (u u' : Value) (h : RepY H d v) (h' : RepY H d v') (r : RelV v u) (r' : RelV v' u') (z : A.units + zaO d < cLine) {E : Value → Shared → Prop} {Q : Value → Shared → Prop} (q : Q (.bool true) s) :
 wpAny (model X.prog X.w) A (richCompare .Eq u u') Q E s := by
 cases d with
 | non =>
  rw [RepY] at h h'
  subst h h'
  exact zcv I A .non .non _ _ _ _ (by rw [Rep]) (by rw [Rep]) r r' (show A.units + 0 < cLine by omega) X.prog X.w _ _ q
 | bl b =>
  rw [RepY] at h h'
  subst h h'
  have := zcv I A (.bl b) (.bl b) _ _ _ _ (by rw [Rep]) (by rw [Rep]) r r' (show A.units + 0 < cLine by omega)
  rw [zaX] at this
  exact this X.prog X.w _ _ q
 | int b =>
  rw [RepY] at h h'
  subst h h'
  have := zcv I A (.int b) (.int b) _ _ _ _ (by rw [Rep]) (by rw [Rep]) r r' (show A.units + 0 < cLine by omega)
  rw [zaX] at this
  exact this X.prog X.w _ _ q
 | str b =>
  rw [RepY] at h h'
  obtain ⟨rfl, _⟩ := h
  obtain ⟨rfl, _⟩ := h'
  have := zcv I A (.str b) (.str b) _ _ _ _ (by rw [Rep]) (by rw [Rep]) r r' (show A.units + 0 < cLine by omega)
  rw [zaX] at this
  exact this X.prog X.w _ _ q
 | lst ds =>
  rw [RepY] at h h'
  obtain ⟨a, xs, rfl, h1, _, h2⟩ := h
  obtain ⟨a', xs', rfl, h1', _, h2'⟩ := h'
  cases (show u = Value.ref a from r)
  cases (show u' = Value.ref a' from r')
  obtain ⟨_, its, n, rv, hg⟩ := (show ObjOk X.prog X.w H s.heap a (.lst xs) from I.hok a _ h1)
  obtain ⟨_, its', n', rv', hg'⟩ := (show ObjOk X.prog X.w H s.heap a' (.lst xs') from I.hok a' _ h1')
  have l1 := h2.length
  have l2 := h2'.length
  have l3 := rv.length
  have l4 := rv'.length
  rw [zaO] at z
  refine zg3 ⟨_, hg, rfl, _, rfl⟩ ⟨_, hg', rfl, _, rfl⟩ (by simp only [List.size_toArray]; omega) (by omega) (fun j k1 k2 => ?_) q
  have := zb2 I A.in1 ds xs xs' its its' h2 h2' rv rv' (by rw [Around.in1_units]; omega) j (by simpa using k1) (by simpa using k2)
  simpa using this
 | tup ds =>
  rw [RepY] at h h'
  obtain ⟨a, xs, rfl, h1, _, h2⟩ := h
  obtain ⟨a', xs', rfl, h1', _, h2'⟩ := h'
  cases (show u = Value.ref a from r)
  cases (show u' = Value.ref a' from r')
  obtain ⟨_, its, rv, o, hg, hc, _, n, hd⟩ := (show ObjOk X.prog X.w H s.heap a (.tup xs) from I.hok a _ h1)
  obtain ⟨_, its', rv', o', hg', hc', _, n', hd'⟩ := (show ObjOk X.prog X.w H s.heap a' (.tup xs') from I.hok a' _ h1')
  have l1 := h2.length
  have l2 := h2'.length
  have l3 := rv.length
  have l4 := rv'.length
  rw [zaO] at z
  refine zfV ⟨_, hg, hc, _, hd⟩ ⟨_, hg', hc', _, hd'⟩ (by simp only [List.size_toArray]; omega) (by omega) (fun j k1 k2 => ?_) q
  have := zb2 I A.in1 ds xs xs' its its' h2 h2' rv rv' (by rw [Around.in1_units]; omega) j (by simpa using k1) (by simpa using k2)
  simpa using this
 | dic =>
  rw [RepY] at h h'
  obtain ⟨a, rfl, h1⟩ := h
  obtain ⟨a', rfl, h1'⟩ := h'
  cases (show u = Value.ref a from r)
  cases (show u' = Value.ref a' from r')
  obtain ⟨_, hS, vs, rk, dd⟩ := zee I.hok h1
  obtain ⟨_, hS', vs', rk', dd'⟩ := zee I.hok h1'
  cases rk
  cases rk'
  exact zd3 hS hS' dd dd' (by omega) rfl (fun i k v e => by simp at e) q
 | da d =>
  rw [RepY] at h h'
  obtain ⟨a, y, rfl, h1, h2⟩ := h
  obtain ⟨a', y', rfl, h1', h2'⟩ := h'
  cases (show u = Value.ref a from r)
  cases (show u' = Value.ref a' from r')
  obtain ⟨_, hS, vs, rk, dd⟩ := zee I.hok h1
  obtain ⟨_, hS', vs', rk', dd'⟩ := zee I.hok h1'
  rw [zaO] at z
  have l1 : 1 = vs.length := KV.length rk
  have l2 : 1 = vs'.length := KV.length rk'
  refine zd3 hS hS' dd dd' (by omega) (by omega) (fun i k w e => ?_) q
  cases rk with
  | cons p1 p2 =>
   cases p2
   cases rk' with
   | cons p1' p2' =>
    cases p2'
    rename_i kw kw'
    obtain ⟨k0, w0⟩ := kw
    obtain ⟨k0', w0'⟩ := kw'
    obtain ⟨e1, r1⟩ := p1
    obtain ⟨e1', r1'⟩ := p1'
    dsimp only at e1 e1' r1 r1'
    subst e1 e1'
    cases i with
    | succ i => simp at e
    | zero =>
     simp at e
     obtain ⟨rfl, rfl⟩ := e
     refine ⟨w0', by simp [valueAt], zed I A.in1 d y y' w0 w0' h2 h2' r1 r1' (by rw [Around.in1_units]; omega)⟩
end
section
variable {X : Cx}
def rEqY : R2 := fun x y H Q => ∃ d, RepY H d x ∧ RepY H d y ∧ zaO d < 60 ∧ Q (.bl true) H
theorem zjM (hr : ze1 X) : OpR X (compareOp .Eq) rEqY := by
 intro pins s σ H x y v u Q I rx ry h
 obtain ⟨d, h1, h2, h3, q⟩ := h
 unfold ze1 at hr
 exact zh6 I X.A d x y v u h1 h2 rx ry (by omega) ⟨.bl true, H, I, rfl, q⟩
theorem zcZ : zdw X (.builtin "isinstance") (fun xs H Q => ∃ x t tp cs b, xs = [x, .ref tp] ∧ TyOf X.K H x (.type t) ∧ H tp = some (.tup cs) ∧ cs.all zhF = true ∧ PySem.W.kitAny X.K (.type t) (cs.map clsV) = some b ∧ Q (.bl b) H) := by
 intro pins s σ H xs us Q I r h
 obtain ⟨x, t, tp, cs, b, rfl, ty, ht, hc, e, q⟩ := h
 obtain ⟨u, w', rfl, ru, rw'⟩ := zgk r
 cases (show w' = Value.ref tp from rw')
 obtain ⟨_, its, rv, o, h1, h2, h3, n, h4⟩ := (show ObjOk X.prog X.w H s.heap tp (.tup cs) from I.hok tp _ ht)
 obtain ⟨oc, od, oda, osl⟩ := o
 dsimp only at h2 h3 h4
 subst h2 h3 h4
 have hi : its = cs.map clsV := zeP hc rv
 subst hi
 have fin : ∀ tk, EP X pins σ Q (.bool b) { s with toks := tk } := fun tk => ⟨.bl b, H, I.tok tk, rfl, q⟩
 generalize ht' : (Value.type t) = T at ty e
 cases ty with
 | non => cases (show u = Value.none from ru); exact PySem.W.kia_tup PySem.W.kitx_none I.kIn True.intro h1 e (fun z => nomatch z) fin
 | bl y => cases (show u = Value.bool y from ru); exact PySem.W.kia_tup PySem.W.kitx_bool I.kIn True.intro h1 e (fun z => nomatch z) fin
 | int i => obtain ⟨t, q⟩ := (show ∃ t, u = Value.int i t from ru); cases q; exact PySem.W.kia_tup PySem.W.kitx_int I.kIn True.intro h1 e (fun z => nomatch z) fin
 | str y => obtain ⟨t, q⟩ := (show ∃ t, u = Value.str y t from ru); cases q; exact PySem.W.kia_tup PySem.W.kitx_str I.kIn True.intro h1 e (fun z => nomatch z) fin
 | flt y => obtain ⟨t, q⟩ := (show ∃ t, u = Value.float y t from ru); cases q; exact PySem.W.kia_tup PySem.W.kitx_float I.kIn True.intro h1 e (fun z => nomatch z) fin
 | @lst a xs ea =>
  cases (show u = Value.ref a from ru)
  obtain ⟨_, _, n, _, g1⟩ := (show ObjOk X.prog X.w H s.heap a (.lst xs) from I.hok a _ ea)
  exact PySem.W.kia_tup PySem.W.kitx_list I.kIn ⟨_, g1, rfl⟩ h1 e (fun z => nomatch z) fin
 | @tup a xs ea =>
  cases (show u = Value.ref a from ru)
  obtain ⟨_, _, _, o, g1, g2, _⟩ := (show ObjOk X.prog X.w H s.heap a (.tup xs) from I.hok a _ ea)
  exact PySem.W.kia_tup PySem.W.kitx_tuple I.kIn ⟨o, g1, g2⟩ h1 e (fun z => nomatch z) fin
 | @dK a kvs ea =>
  cases (show u = Value.ref a from ru)
  obtain ⟨_, _, vs, _, p⟩ := (show ObjOk X.prog X.w H s.heap a (.dK kvs) from I.hok a _ ea)
  obtain ⟨o, es, ep, g1, g2, _⟩ := p
  exact PySem.W.kia_tup PySem.W.kitx_dict I.kIn ⟨o, g1, g2.1⟩ h1 e (fun z => nomatch z) fin
 | @frz a ob xs ea =>
  cases (show u = Value.ref a from ru)
  obtain ⟨_, _, _, n, _, g1⟩ := (show ObjOk X.prog X.w H s.heap a (.frz ob (.lst xs)) from I.hok a _ ea)
  exact PySem.W.kia_tup PySem.W.kitx_list I.kIn ⟨_, g1, rfl⟩ h1 e (fun z => nomatch z) fin
 | @dT a kvs ea =>
  cases (show u = Value.ref a from ru)
  obtain ⟨_, _, xs, _, o, es, ep, g1, g2, _⟩ := (show ObjOk X.prog X.w H s.heap a (.dT kvs) from I.hok a _ ea)
  exact PySem.W.kia_tup PySem.W.kitx_dict I.kIn ⟨o, g1, g2.1⟩ h1 e (fun z => nomatch z) fin
 | ins => cases ht'
end
section
variable {X : Cx}
def zi7 : V → List V → Hp → VK → Prop := fun x vs H Q => ∃ (l : Addr) (xs : List V) (i : Nat) (y : V), x = .ref l ∧ vs = [.int (i : Int), y] ∧ H l = some (.lst xs) ∧ i ≤ xs.length ∧ xs.length < sizeLine ∧ Q .non (upd H l (.lst (xs.take i ++ y :: xs.drop i)))
theorem zhm : MtM X "list.insert" zi7 := by
 intro pins s σ H x vs v us Q I rx rv h
 obtain ⟨l, xs, i, y, rfl, rfl, hH, hi, hz, q⟩ := h
 cases rx
 obtain ⟨u1, u2, rfl, ru1, ru2⟩ := zgk rv
 obtain ⟨t, rfl⟩ := (show ∃ t, u1 = Value.int i t from ru1)
 obtain ⟨z, its, n, r, hl, e⟩ := I.lstM hH
 have fit : ¬ (!Builtin.List.listFitsIndex (i : Int)) = true := by
  have hs : (sizeLine : Int) = 16777216 := by decide
  have := fitsIndex_both (k := (i : Int)) (by omega) (by omega)
  rw [this]
  decide
 have tl : s.TypeIs (.ref l) "list" := ⟨_, e, rfl⟩
 have sz : its.toArray.size ≤ sizeLine := by rw [List.size_toArray, ← hl]; exact Nat.le_of_lt hz
 obtain ⟨x, hx⟩ : ∃ x : Int, x = (i : Int) := ⟨_, rfl⟩
 obtain ⟨items, hi2⟩ : ∃ a, a = its.toArray := ⟨_, rfl⟩
 rw [← hx] at fit ⊢
 have e2 := e
 rw [← hi2] at sz e2
 refine call_meets F.slot_list_insert tl F.entry_list_insert (F.args_list_insert_3 _ _ _) (@PySem.AutoListH.list_insert_list_int_val_1 l items n x t u2 fit sz) ⟨e2, ?_⟩
 refine ⟨.non, _, I.lset (ys := xs.take i ++ y :: xs.drop i) (its' := its.take i ++ u2 :: its.drop i) hH e ?_ ?_ ?_, rfl, q⟩
 · subst hx
   have k0 : (if (i : Int) < 0 then ((i : Int) + ((its.toArray.size : Nat) : Int)).toNat else min (i : Int).toNat its.toArray.size) = i := by
    rw [if_neg (by omega), List.size_toArray]
    omega
   dsimp only
   rw [k0]
   apply Array.toList_inj.mp
   simp
   exact List.take_of_length_le (by rw [List.length_drop]; exact Nat.le_refl _)
 · exact (r.take i).append (.cons ru2 (r.drop i))
 · rw [List.length_append, List.length_cons, List.length_take, List.length_drop]; omega
end
def hid (b g : Addr) (H : Hp) : Hp := fun a => if a = b ∨ a = g then none else H a
theorem Bag.trk {H : Hp} {b g l : Addr} {n : Int} (B : Bag H b g l n) : H b ≠ none ∧ H g ≠ none := by
 obtain ⟨gs, ls, c, st, h1, h2, _⟩ := B.ex
 refine ⟨?_, ?_⟩
 · rw [h1]; exact Option.some_ne_none _
 · rw [h2]; exact Option.some_ne_none _
theorem SameB.back {H H' : Hp} {b g l : Addr} {n : Int} (B : Bag H' b g l n) (s : SameB b g H H') : ∀ a, H' a = Option.none → H a = Option.none := fun a h => by
 cases e : H a with
 | none => rfl
 | some o =>
  have h1 : a ≠ b := fun z => B.trk.1 (z ▸ h)
  have h2 : a ≠ g := fun z => B.trk.2 (z ▸ h)
  rw [s a o e h1 h2] at h
  cases h
def zfS (D : Nat) (sp : Nat → Sp) : Sp := fun vs H Q E => ∃ n, n ≤ D ∧ sp n vs H Q E
section
variable {P : Program} {w : World} {K : PySem.W.Frag} {mg : Str → Option Value} {base : Heap}
def zke : Sp := fun _ _ _ _ => False
theorem ziH {x : Str} {st : Stmt} {f : Addr} {fd : FuncData} {N ps : List Str} (F : Fun K x x st f fd) (S : FnScope N ps (zah st)) (b : Binds K fd ps []) (M : mg x = some (.ref f)) (L : Nat) (sp : Nat → Sp)
 (step : ∀ n sp0, (∀ m, n = m + 1 → sp0 = sp m) → FnH P w K mg base (L + 1 + n) x ps sp0 → FnOk P w K mg base CX0 (L + 1 + n + 1) f fd ps (sp n)) : ∀ n, FnOk P w K mg base CX0 (L + 1 + n + 1) f fd ps (sp n)
 | 0 => step 0 zke (fun m z => by cases z) ⟨f, fd, F.ok (k := L) S (fun _ _ _ _ h => h.elim) (fun _ _ _ _ _ _ _ _ _ h => h.elim), b, F.kp, M⟩
 | n + 1 => step (n + 1) (sp n) (fun m z => by cases z; rfl) ⟨f, fd, ziH F S b M L sp step n, b, F.kp, M⟩
theorem ziY {f : Addr} {fd : FuncData} {ps : List Str} {L D : Nat} {sp : Nat → Sp} (h : ∀ n, FnOk P w K mg base CX0 (L + 1 + n + 1) f fd ps (sp n)) : FnOk P w K mg base CX0 (L + D + 2) f fd ps (zfS D sp) :=
 ⟨fun vs H Q E ⟨n, _, q⟩ => (h n).len vs H Q E q, fun A outer s H args us vs Q E hr he hb hv ⟨n, hn, q⟩ => (h n).run A outer s H args us vs Q E (hr.mono (by omega)) he hb hv q⟩
end
section
variable {X : Cx}
def rIx2 (K : PySem.W.Frag) : R2 := fun x y H Q => ∃ p xs i v, x = .ref p ∧ y = .int i ∧ (SqL K H p xs ∨ SqT K H p xs) ∧ atI xs i = some v ∧ Q v H
theorem zjY : IxR X (rIx2 X.K) := by
 intro value slice pins s σ H x y v u Q I rx ry h hs
 obtain ⟨p, xs, i, z, rfl, rfl, hq, he, q⟩ := h
 rcases hq with hq | hq
 · exact zaw value slice pins s σ H _ _ v u Q I rx ry ⟨p, xs, i, z, rfl, rfl, hq, he, q⟩ hs
 · exact zaZ value slice pins s σ H _ _ v u Q I rx ry ⟨p, xs, i, z, rfl, rfl, hq, he, q⟩ hs
theorem zhA (K : PySem.W.Frag) (h : X.K = K) : IxR X (rIx2 K) := by subst h; exact zjY
end
def eD : Option Int → DY
 | none => .non
 | some i => .int i
theorem zg1 (H : Hp) (o : Option Int) : RepY H (eD o) (eV o) := by
 cases o with
 | none => show RepY H .non .non; rw [RepY]
 | some i => show RepY H (.int i) (.int i); rw [RepY]
theorem ziw (o : Option Int) : zaO (eD o) = 0 := by
 cases o <;> rfl
theorem RepYs.nil {H : Hp} : RepYs H [] [] := by rw [RepYs]
theorem RepYs.cons {H : Hp} {d : DY} {ds : List DY} {x : V} {xs : List V} (h : RepY H d x) (hs : RepYs H ds xs) : RepYs H (d :: ds) (x :: xs) := by rw [RepYs]; exact ⟨x, xs, rfl, h, hs⟩
theorem zi6 {H : Hp} {a : Addr} {ds : List DY} {xs : List V} (h : H a = some (.lst xs)) (hs : RepYs H ds xs) (hl : xs.length ≤ 900) : RepY H (.lst ds) (.ref a) := by
 rw [RepY]
 exact ⟨a, xs, rfl, h, by rw [← hs.length]; exact hl, hs⟩
theorem zgZ {H : Hp} {a : Addr} {ds : List DY} {xs : List V} (h : H a = some (.tup xs)) (hs : RepYs H ds xs) (hl : xs.length ≤ 900) : RepY H (.tup ds) (.ref a) := by
 rw [RepY]
 exact ⟨a, xs, rfl, h, by rw [← hs.length]; exact hl, hs⟩
theorem zcR : ∀ {ds : List DY} {m : Nat}, (∀ d ∈ ds, zaO d ≤ m) → za3 ds ≤ m
 | [], m, _ => by rw [za3]; exact Nat.zero_le _
 | d :: ds, m, h => by
  rw [za3]
  have h1 := h d (List.mem_cons_self ..)
  have h2 := zcR fun e he => h e (List.mem_cons_of_mem _ he)
  omega
theorem zcS : ∀ {ds : List DY} {d : DY}, d ∈ ds → zaO d ≤ za3 ds
 | [], d, h => nomatch h
 | e :: ds, d, h => by
  rw [za3]
  rcases List.mem_cons.mp h with rfl | h
  · omega
  · have := zcS h
    omega
theorem zir {K : PySem.W.Frag} {a b : Addr} {xs ys : List V} {g : TG} {tb : TS} {D : Ends} {σ : St} {H : Hp} (Pv : Nat → St → Hp → Prop) (h0 : Pv 0 σ H) (hl : ∀ i σ H, i ≤ min xs.length ys.length → Pv i σ H → SqT K H a xs ∧ SqT K H b ys)
 (hs : ∀ i x y q σ H, xs[i]? = some x → ys[i]? = some y → H q = none → Pv i σ H → g (.ref q) σ (upd H q (.tup [x, y])) fun σ2 H2 => tb { D with nx := Pv (i + 1), ct := Pv (i + 1), bk := D.nx } σ2 H2) (hd : ∀ σ H, Pv (min xs.length ys.length) σ H → D.nx σ H) :
 ∃ W : Nat → Nat → St → Hp → Prop, (∃ m, W 0 m σ H) ∧ ∀ i m σ H, W i m σ H →
  ((Itz K a b).stop i H ∧ D.nx σ H) ∨ ((Itz K a b).go i H ∧ ∃ N : St → Hp → Prop, (∀ σ' H', N σ' H' → ∃ m', m' < m ∧ W (i + 1) m' σ' H') ∧ ∀ x H', (Itz K a b).yld i H x H' → g x σ H' fun σ2 H2 => tb { D with nx := N, ct := N, bk := D.nx } σ2 H2) := by
 refine ⟨fun i m σ H => m = min xs.length ys.length - i ∧ i ≤ min xs.length ys.length ∧ Pv i σ H, ⟨min xs.length ys.length, by simp, Nat.zero_le _, h0⟩, ?_⟩
 rintro i m σ H ⟨rfl, hi, p⟩
 have q := hl i σ H hi p
 by_cases hlt : i < min xs.length ys.length
 · have e1 : xs[i]? = some (xs[i]'(by omega)) := by simp
   have e2 : ys[i]? = some (ys[i]'(by omega)) := by simp
   refine .inr ⟨⟨xs, ys, _, _, q.1, q.2, e1, e2⟩, Pv (i + 1), fun σ' H' p' => ⟨min xs.length ys.length - (i + 1), by omega, rfl, hlt, p'⟩, fun x H' y => ?_⟩
   obtain ⟨c, rfl, hc, y⟩ := y
   rw [y xs ys _ _ q.1 q.2 e1 e2]
   exact hs i _ _ c σ H e1 e2 hc p
 · have e : i = min xs.length ys.length := by omega
   subst e
   exact .inl ⟨⟨xs, ys, q.1, q.2, by omega⟩, hd σ H p⟩
theorem zf8 {a b : Option Int} (h : eV a = eV b) : a = b := by
 cases a <;> cases b <;> simp [eV] at h ⊢
 exact h
theorem zeB {H : Hp} : ∀ ps qs : List (Addr × WP), (∀ p ∈ ps, H p.1 = some (.tup [.str p.2.1, eV p.2.2.1, eV p.2.2.2])) → (∀ p ∈ qs, H p.1 = some (.tup [.str p.2.1, eV p.2.2.1, eV p.2.2.2])) → (ps.map fun p => V.ref p.1) = (qs.map fun p => V.ref p.1) → ps.map (·.2) = qs.map (·.2)
 | [], [], _, _, _ => rfl
 | [], _ :: _, _, _, h => by simp at h
 | _ :: _, [], _, _, h => by simp at h
 | p :: ps, q :: qs, h1, h2, h => by
  rw [List.map_cons, List.map_cons, List.cons.injEq] at h
  have e1 : p.1 = q.1 := by injection h.1
  have a1 := h1 p List.mem_cons_self
  have a2 := h2 q List.mem_cons_self
  rw [e1, a2] at a1
  have e2 : p.2 = q.2 := by
   obtain ⟨_, f, lo, hi⟩ := p
   obtain ⟨_, f', lo', hi'⟩ := q
   simp only [Option.some.injEq, HO.tup.injEq, List.cons.injEq, V.str.injEq, and_true] at a1
   obtain ⟨z1, z2, z3⟩ := a1
   rw [z1, zf8 z2, zf8 z3]
  rw [List.map_cons, List.map_cons, e2, zeB ps qs (fun x hx => h1 x (List.mem_cons_of_mem _ hx)) (fun x hx => h2 x (List.mem_cons_of_mem _ hx)) h.2]
theorem WishAt.inj {H : Hp} {a : Addr} {w w' : List WP} (h : WishAt H a w) (h' : WishAt H a w') : w = w' := by
 obtain ⟨ps, rfl, e, f⟩ := h
 obtain ⟨qs, rfl, e', f'⟩ := h'
 rw [e] at e'
 simp only [Option.some.injEq, HO.tup.injEq] at e'
 exact zeB ps qs f f' e'
theorem zhk {i : Nat} {v : V} {σ : St} {H : Hp} {Q : St → Hp → Prop} (h : Q (σ.set i (some v)) H) : zgE i v σ H Q := h
theorem zjx {c : TT} {t u v : TS} {D : Ends} {σ : St} {H : Hp} (M : Bool → Hp → Prop) (h : ∀ R : Bool → Hp → Prop, (∀ b H', M b H' → R b H') → c σ H R) (k1 : ∀ H', M true H' → t { D with nx := v D } σ H') (k2 : ∀ H', M false H' → u { D with nx := v D } σ H') : tSeq (tIfS c t u) v D σ H :=
 h _ fun b H' m => by cases b with | true => exact iteT (k1 H' m) | false => exact iteF (k2 H' m)
theorem WishAt.tyN {H : Hp} {a : Addr} {w : List WP} (h : WishAt H a w) : ∃ xs, H a = some (.tup xs) ∧ xs.length = w.length := by
 obtain ⟨ps, rfl, e, _⟩ := h
 exact ⟨_, e, by simp⟩
theorem zfT {K : PySem.W.Frag} {H : Hp} : ∀ qs : List (Addr × WP), (∀ q ∈ qs, H q.1 = some (.tup [.str q.2.1, eV q.2.2.1, eV q.2.2.2])) → Reps K H (qs.map fun q => PD.tup [.str q.2.1, dE q.2.2.1, dE q.2.2.2]) (qs.map fun q => V.ref q.1)
 | [], _ => by show Reps K H [] []; rw [Reps]
 | q :: qs, h => by
  show Reps K H (.tup [.str q.2.1, dE q.2.2.1, dE q.2.2.2] :: qs.map fun q => PD.tup [.str q.2.1, dE q.2.2.1, dE q.2.2.2]) (.ref q.1 :: qs.map fun q => V.ref q.1)
  rw [Reps]
  refine ⟨_, _, rfl, ?_, zfT qs fun p hp => h p (List.mem_cons_of_mem _ hp)⟩
  rw [Rep]
  refine ⟨q.1, _, rfl, SqT.of (h q List.mem_cons_self), ?_⟩
  rw [Reps]
  refine ⟨_, _, rfl, by rw [Rep], ?_⟩
  rw [Reps]
  refine ⟨_, _, rfl, zfU _, ?_⟩
  rw [Reps]
  exact ⟨_, _, rfl, zfU _, by rw [Reps]⟩
theorem zdK : ∀ qs : List (Addr × WP), zav (qs.map fun q => PD.tup [.str q.2.1, dE q.2.2.1, dE q.2.2.2]) ≤ 1
 | [] => by show zav [] ≤ 1; rw [zav]; decide
 | q :: qs => by
  show zav (.tup [.str q.2.1, dE q.2.2.1, dE q.2.2.2] :: qs.map fun q => PD.tup [.str q.2.1, dE q.2.2.1, dE q.2.2.2]) ≤ 1
  have := zdK qs
  rw [zav, zay, zav, zav, zav, zav, zay, zef, zef]
  · omega
  all_goals simp
theorem zj1 {K : PySem.W.Frag} {H : Hp} {a p : Addr} {w : List WP} {Q : VK} (h : WishAt H a w) (hp : H p = some (.tup [])) (q : Q (.bl w.isEmpty) H) : rEqD K (.ref a) (.ref p) H Q := by
 obtain ⟨qs, rfl, e, f⟩ := h
 refine ⟨.tup (qs.map fun q => PD.tup [.str q.2.1, dE q.2.2.1, dE q.2.2.2]), .tup [], by rw [Rep]; exact ⟨a, _, rfl, SqT.of e, zfT qs f⟩, by rw [Rep]; exact ⟨p, _, rfl, SqT.of hp, by rw [Reps]⟩, by rw [zay]; have := zdK qs; omega, ?_⟩
 cases qs with
 | nil => rw [pyEq]; rw [show zbk (([] : List (Addr × WP)).map fun q => PD.tup [.str q.2.1, dE q.2.2.1, dE q.2.2.2]) [] = true from zbi []]; exact q
 | cons n ns => rw [pyEq, zaU (by simp)]; exact q
theorem WDrawn.sub {p p' : List WP} (h : WDrawn p) (s : p'.Sublist p) : WDrawn p' := ⟨Nat.le_trans s.length_le h.len, fun x hx => h.ok x (s.subset hx), h.asc.sublist (s.map _)⟩
structure WsAt (H : Hp) (l : Addr) (ws : List (Addr × List WP)) : Prop where
 at' : H l = some (.lst (ws.map fun x => V.ref x.1))
 ok : ∀ x ∈ ws, WishAt H x.1 x.2 ∧ WOk x.2
 len : ws.length ≤ 800
theorem WsAt.same {H H' : Hp} {l : Addr} {ws : List (Addr × List WP)} (h : WsAt H l ws) (s : Same H H') : WsAt H' l ws := ⟨s _ _ h.at', fun x hx => ⟨(h.ok x hx).1.same s, (h.ok x hx).2⟩, h.len⟩
theorem WsAt.sameB {H H' : Hp} {b g m : Addr} {n : Int} {l : Addr} {ws : List (Addr × List WP)} (h : WsAt H l ws) (B : Bag H b g m n) (lb : l ≠ b) (lg : l ≠ g) (s : SameB b g H H') : WsAt H' l ws := ⟨s _ _ h.at' lb lg, fun x hx => ⟨(h.ok x hx).1.sameB B s, (h.ok x hx).2⟩, h.len⟩
def ze9 : Sp := fun vs H Q _ => ∃ (l : Addr) (ws : List (Addr × List WP)), vs = [.ref l] ∧ WsAt H l ws ∧ ∀ H', Same H H' → Q (.bl true) H'
def zdU : Sp := fun vs H Q _ => ∃ (l : Addr) (ws : List (Addr × List WP)), vs = [.ref l] ∧ WsAt H l ws ∧ ∀ H', Same H H' → Q .non H'
def zcL : Sp := fun vs H Q _ => ∃ (l : Addr) (ws : List (Addr × List WP)), vs = [.ref l] ∧ WsAt H l ws ∧ ∀ (r : Addr) (qs : List (Addr × List WP)) (H' : Hp), Same H H' → H r = none → qs.Perm ws → (qs.Pairwise fun x y => pyLt (rkD y.2) (rkD x.2) = false) → H' r = some (.lst (qs.map fun x => V.ref x.1)) → Q (.ref r) H'
def zcF (w w' : List WP) : Bool := lexL ltKy (w.map ky) (w'.map ky)
def zfa : Sp := fun vs H Q _ => ∃ (a b : Addr) (w w' : List WP), vs = [.ref a, .ref b] ∧ WishAt H a w ∧ WishAt H b w' ∧ WOk w ∧ WOk w' ∧ ∀ H', Same H H' → Q (.bl (zcF w w')) H'
def ze7 : Sp := fun vs H Q _ => ∃ (b g l : Addr) (n : Int) (wa : Addr) (w : List WP), vs = [.ref b, .ref wa] ∧ Bag H b g l n ∧ n ≤ 10 ^ 7 ∧ WishAt H wa w ∧ WDrawn w ∧
 ∀ (r : Addr) (w' : List WP) (H' : Hp), WishAt H' r w' → WDrawn w' → Bag H' b g l (n + 40) → SameB b g H H' → Q (.ref r) H'
def ze6 : Sp := fun vs H Q _ => ∃ (b g l : Addr) (n : Int), vs = [.ref b] ∧ Bag H b g l n ∧ n ≤ 10 ^ 6 ∧
 ∀ (r : Addr) (ws : List (Addr × List WP)) (H' : Hp), H r = none → WsAt H' r ws → Bag H' b g l (n + 100000) → SameB b g H H' → Q (.ref r) H'
def zdQ : Sp := fun vs H Q _ => ∃ (l : Addr) (ws : List (Addr × List WP)), vs = [.ref l] ∧ WsAt H l ws ∧ ∀ H', Same H H' → Q (.bl true) H'
theorem zgb {α : Type} (f : α → V) (ps : List α) (lo hi : Option Int) : ∃ qs : List α, qs.Sublist ps ∧ cutV (ps.map f) lo hi = qs.map f :=
 ⟨(ps.drop _).take _, (List.take_sublist _ _).trans (List.drop_sublist _ _), by unfold cutV; rw [← List.map_drop, ← List.map_take, List.length_map]⟩
theorem zhr {a b : Option Int} (h : lpO a = lpO b) : a = b := by
 cases a <;> cases b <;> simp [lpO] at h ⊢
 exact h
theorem zji {a b : Option Int} (h : hpO a = hpO b) : a = b := by
 cases a <;> cases b <;> simp [hpO] at h ⊢
 exact h
theorem zjS {p q : WP} (h : ky p = ky q) : p = q := by
 obtain ⟨f, lo, hi⟩ := p
 obtain ⟨f', lo', hi'⟩ := q
 unfold ky at h
 simp only [Prod.mk.injEq] at h ⊢
 exact ⟨h.1, zhr h.2.1, zji h.2.2⟩
theorem zgg : ∀ (i : Nat) (w w' : List WP) (p p' : WP), w.take i = w'.take i → w[i]? = some p → w'[i]? = some p' → p ≠ p' → zcF w w' = ltKy (ky p) (ky p')
 | 0, x :: w, y :: w', p, p', _, e, e', ne => by
  simp at e e'
  subst e e'
  unfold zcF
  rw [List.map_cons, List.map_cons, lexL, if_neg fun z => ne (zjS z)]
 | 0, [], _, _, _, _, e, _, _ => by simp at e
 | 0, _ :: _, [], _, _, _, _, e, _ => by simp at e
 | i + 1, [], _, _, _, _, e, _, _ => by simp at e
 | i + 1, _ :: _, [], _, _, _, _, e, _ => by simp at e
 | i + 1, x :: w, y :: w', p, p', h, e, e', ne => by
  rw [List.take_succ_cons, List.take_succ_cons, List.cons.injEq] at h
  obtain ⟨rfl, h⟩ := h
  have := zgg i w w' p p' h (by simpa using e) (by simpa using e') ne
  unfold zcF at this ⊢
  rw [List.map_cons, List.map_cons, lexL, if_pos rfl, this]
theorem ze0 : ∀ (w w' : List WP), w.take (min w.length w'.length) = w'.take (min w.length w'.length) → zcF w w' = decide ((w.length : Int) < (w'.length : Int))
 | [], [], _ => rfl
 | [], y :: w', _ => by unfold zcF; rw [List.map_nil, List.map_cons, lexL]; symm; rw [decide_eq_true_iff]; simp <;> omega
 | x :: w, [], _ => by unfold zcF; rw [List.map_nil, List.map_cons, lexL]; symm; rw [decide_eq_false_iff_not]; simp <;> omega
 | x :: w, y :: w', h => by
  rw [List.length_cons, List.length_cons, Nat.succ_min_succ, List.take_succ_cons, List.take_succ_cons, List.cons.injEq] at h
  obtain ⟨rfl, h⟩ := h
  have := ze0 w w' h
  unfold zcF at this ⊢
  rw [List.map_cons, List.map_cons, lexL, if_pos rfl, this, List.length_cons, List.length_cons]
  congr 1
  simp only [eq_iff_iff]
  omega
def dyWP (p : WP) : DY := .tup [.str p.1, eD p.2.1, eD p.2.2]
def dyW (w : List WP) : DY := .tup (w.map dyWP)
theorem zdE {H : Hp} : ∀ ps : List (Addr × WP), (∀ p ∈ ps, H p.1 = some (.tup [.str p.2.1, eV p.2.2.1, eV p.2.2.2])) → (∀ p ∈ ps, p.2.1.length ≤ 8) → RepYs H ((ps.map (·.2)).map dyWP) (ps.map fun p => V.ref p.1)
 | [], _, _ => RepYs.nil
 | p :: ps, h, hl => by
  refine RepYs.cons ?_ (zdE ps (fun x hx => h x (List.mem_cons_of_mem _ hx)) fun x hx => hl x (List.mem_cons_of_mem _ hx))
  refine zgZ (h p List.mem_cons_self) (RepYs.cons ?_ (RepYs.cons (zg1 H _) (RepYs.cons (zg1 H _) RepYs.nil))) (by simp)
  rw [RepY]
  exact ⟨rfl, Nat.le_trans (hl p List.mem_cons_self) (by decide)⟩
theorem zg0 {H : Hp} {a : Addr} {w : List WP} (h : WishAt H a w) (ok : WOk w) : RepY H (dyW w) (.ref a) := by
 obtain ⟨ps, rfl, e, f⟩ := h
 refine zgZ e (zdE ps f fun p hp => ?_) (by have := ok.len; rw [List.length_map] at *; omega)
 exact (ok.ok p.2 (List.mem_map_of_mem hp)).1.eight
theorem zcU {H : Hp} : ∀ ws : List (Addr × List WP), (∀ x ∈ ws, WishAt H x.1 x.2 ∧ WOk x.2) → RepYs H ((ws.map (·.2)).map dyW) (ws.map fun p => V.ref p.1)
 | [], _ => RepYs.nil
 | x :: ws, h => RepYs.cons (zg0 (h x List.mem_cons_self).1 (h x List.mem_cons_self).2) (zcU ws fun y hy => h y (List.mem_cons_of_mem _ hy))
theorem WsAt.repY {H : Hp} {l : Addr} {ws : List (Addr × List WP)} (h : WsAt H l ws) : RepY H (.lst ((ws.map (·.2)).map dyW)) (.ref l) :=
 zi6 h.at' (zcU ws h.ok) (by have := h.len; rw [List.length_map]; omega)
theorem zhN (w : List WP) : zaO (dyW w) ≤ 2 := by
 unfold dyW
 rw [zaO]
 have : za3 (w.map dyWP) ≤ 1 := zcR fun d hd => by
  obtain ⟨p, _, rfl⟩ := List.mem_map.mp hd
  unfold dyWP
  simp only [zaO, za3, ziw]
  omega
 omega
theorem zcQ (ws : List (List WP)) : zaO (.lst (ws.map dyW)) ≤ 3 := by
 rw [zaO]
 have : za3 (ws.map dyW) ≤ 2 := zcR fun d hd => by
  obtain ⟨p, _, rfl⟩ := List.mem_map.mp hd
  exact zhN p
 omega
end L2
set_option maxHeartbeats 4000000
namespace K08
open PySem PySem.Spec PyProof.Rows L2
def top (i : Nat) : Stmt := PySem.Challenge.pw_newsways_k08_wishes_in_order.main.body.getD i (.Pass ⟨0, 0, 0, 0⟩)
abbrev zcd : Stmt := top 4
abbrev zc5 : Stmt := top 5
abbrev zcu : Stmt := top 6
abbrev zbz : Stmt := top 9
abbrev za6 : Stmt := top 10
abbrev zaP : Stmt := top 11
abbrev zbW : Stmt := top 12
abbrev za9 : Stmt := top 13
abbrev za7 : Stmt := top 14
abbrev zbc : Stmt := top 17
abbrev za5 : Stmt := top 18
abbrev zeu : Stmt := top 16
abbrev zce : Stmt := top 15
abbrev zby : Stmt := top 20
abbrev zcc : Stmt := top 21
abbrev zbn : Stmt := top 22
abbrev zcb : Stmt := top 23
abbrev zb8 : Stmt := top 24
abbrev zbF : Stmt := top 25
abbrev zbx : Stmt := top 26
abbrev za1 : Stmt := top 27
abbrev za8 : Stmt := top 28
abbrev zbH : Stmt := top 29
abbrev zaT : Stmt := top 30
abbrev zbd : Stmt := top 31
abbrev zbe : Stmt := top 32
abbrev zb7 : Stmt := top 33
abbrev zca : Stmt := top 34
abbrev zbI : Stmt := top 36
abbrev zb9 : Stmt := top 35
abbrev zbG : Stmt := top 37
abbrev zfk : Stmt := top 38
def zdP (m : Nat) : Sp := fun vs H Q _ => ∃ (v v' : V) (d : DY), vs = [v, v'] ∧ m ≤ 9 ∧ RepY H d v ∧ RepY H d v' ∧ zaO d ≤ m ∧ ∀ H', Same H H' → Q (.bl true) H'
section
variable {P : Program} {w : World} {K : PySem.W.Frag} {mg : Str → Option Value} {base : Heap}
theorem scM {N P : List Str} {sc : Scope} (h1 : sc.kind = .function := by rfl) (h2 : sc.isCoroutine = false := by rfl) (h3 : sc.isGenerator = false := by rfl) (h4 : N.Nodup := by decide +kernel) (h5 : N.take P.length = P := by rfl) (h6 : ∀ x ∈ P, sc.names.lookup x = some .local ∨ sc.names.lookup x = some .cell := by decide +kernel) (h7 : ∀ y ∈ sc.names, y.2 ≠ .free := by decide +kernel) : FnScope N P sc := ⟨h1, h2, h3, h4, h5, h6, h7⟩
theorem zfh : FnScope ["thing"] ["thing"] (zah zcd) := scM
theorem zgX : FnScope ["thing"] ["thing"] (zah zc5) := scM
theorem sc_is_span : FnScope ["thing", "low", "high"] ["thing"] (zah zcu) := scM
theorem zfi : FnScope ["thing"] ["thing"] (zah zbz) := scM
theorem sc_is_wish_part : FnScope ["thing", "field", "low", "high"] ["thing"] (zah za6) := scM
theorem zc1 : FnScope ["parts"] ["parts"] (zah zaP) := scM
theorem zgq : FnScope ["thing"] ["thing"] (zah zbW) := scM
theorem zdZ : FnScope ["thing"] ["thing"] (zah za9) := scM
theorem zdd : FnScope ["thing"] ["thing"] (zah za7) := scM
theorem zdx : FnScope ["low"] ["low"] (zah zbc) := scM
theorem zda : FnScope ["high"] ["high"] (zah za5) := scM
theorem zi5 : FnScope ["wish"] ["wish"] (zah zeu) := scM
theorem zfj : FnScope ["wishes"] ["wishes"] (zah zce) := scM
theorem sc_law_bag : FnScope ["script", "great", "lesser", "stir", "cell"] ["script"] (zah zby) := scM
theorem sc_law_draw : FnScope ["bag", "many", "found", "cell"] ["bag", "many"] (zah zcc) := scM
theorem sc_law_number : FnScope ["bag", "choice", "number"] ["bag"] (zah zbn) := scM
theorem zfg : FnScope ["number"] ["number"] (zah zcb) := scM
theorem sc_law_span : FnScope ["bag", "choice", "low", "high"] ["bag"] (zah zb8) := scM
theorem zet : FnScope ["found"] ["found"] (zah zbF) := scM
theorem zdb : FnScope ["found", "due"] ["found", "due"] (zah zbx) := scM
theorem sc_law_field : FnScope ["bag", "choice", "some"] ["bag"] (zah za1) := scM
theorem zdY : FnScope ["bag", "most"] ["bag", "most"] (zah za8) := scM
theorem sc_law_moved : FnScope ["bag", "span", "ends", "end", "step", "low", "high"] ["bag", "span"] (zah zbH) := scM
theorem zdc : FnScope ["thing"] ["thing"] (zah zaT) := scM
theorem sc_law_is_span : FnScope ["low", "high", "end"] ["low", "high"] (zah zbd) := scM
theorem sc_law_is_made : FnScope ["thing", "size", "k", "part"] ["thing", "size"] (zah zbe) := scM
theorem sc_law_wish : FnScope ["bag", "fields", "parts", "field", "there", "span"] ["bag", "fields"] (zah zb7) := scM
theorem sc_law_like : FnScope ["bag", "wish", "choice", "at", "low", "high"] ["bag", "wish"] (zah zca) := scM
theorem sc_law_ahead : FnScope ["one", "other", "field", "low", "high", "name", "least", "most"] ["one", "other"] (zah zbI) := scM
theorem sc_law_list : FnScope ["bag", "many", "fields", "some", "k", "like", "near", "wish"] ["bag"] (zah zb9) := scM
theorem sc_law_right : FnScope ["wishes", "handed", "found", "k"] ["wishes"] (zah zbG) := scM
theorem sc_law : FnScope ["script", "bag", "wishes", "other", "some"] ["script"] (zah zfk) := scM
section
variable (P : Program) (w : World) (K : PySem.W.Frag) (mg : Str → Option Value) (base : Heap)
abbrev Γ0 := FnH P w K mg base 1 "is_whole" ["thing"] (zcJ K)
abbrev Γ1 := FnH P w K mg base 2 "is_end" ["thing"] (zi1 K)
abbrev Γ3 := FnH P w K mg base 1 "is_field" ["thing"] (ze8)
abbrev Γ2 := FnH P w K mg base 3 "is_span" ["thing"] (zdT K)
abbrev Γ5 := FnH P w K mg base 1 "fields_ascend" ["parts"] (zdV)
abbrev Γ4 := FnH P w K mg base 4 "is_wish_part" ["thing"] (zcI)
abbrev Γ6 := FnH P w K mg base 5 "is_wish" ["thing"] (zdS)
abbrev Γ7 := FnH P w K mg base 6 "are_wishes" ["thing"] (ze9)
abbrev Γ9 := FnH P w K mg base 1 "rank_of_low" ["low"] (zgQ)
abbrev Γ10 := FnH P w K mg base 1 "rank_of_high" ["high"] (ze3)
abbrev Γ8 := FnH P w K mg base 7 "check_wishes" ["thing"] (zdU)
abbrev Γ11 := FnH P w K mg base 2 "rank" ["wish"] (zgP K)
abbrev Γ14 := FnH P w K mg base 1 "_law_draw" ["bag", "many"] (zgS)
abbrev Γ15 := FnH P w K mg base 2 "_law_number" ["bag"] (zdR)
abbrev Γ16 := FnH P w K mg base 1 "_law_held" ["number"] (zgR)
abbrev Γ20 := FnH P w K mg base 2 "_law_field" ["bag"] (zcK)
abbrev Γ18 := FnH P w K mg base 1 "_law_whole" ["found"] (zcJ K)
abbrev Γ23 := FnH P w K mg base 1 "_law_is_field" ["thing"] (zbV)
abbrev Γ24 := FnH P w K mg base 2 "_law_is_span" ["low", "high"] (zcm)
abbrev Γ17 := FnH P w K mg base 3 "_law_span" ["bag"] (zgO)
abbrev Γ22 := FnH P w K mg base 3 "_law_moved" ["bag", "span"] (ze4)
abbrev Γ21 := FnH P w K mg base 3 "_law_fields" ["bag", "most"] (zcn)
abbrev Γ27 := FnH P w K mg base 4 "_law_like" ["bag", "wish"] (ze7)
abbrev Γ26 := FnH P w K mg base 4 "_law_wish" ["bag", "fields"] (zc9)
abbrev Γ12 := FnH P w K mg base 11 "in_order" ["wishes"] (zcL)
abbrev Γ19 := FnH P w K mg base 11 "_law_same" ["found", "due"] (zfS 9 zdP)
abbrev Γ28 := FnH P w K mg base 1 "_law_ahead" ["one", "other"] (zfa)
abbrev Γ25 := FnH P w K mg base 3 "_law_is_made" ["thing", "size"] (ze5)
abbrev Γ13 := FnH P w K mg base 1 "_law_bag" ["script"] (zi2 K)
abbrev Γ29 := FnH P w K mg base 5 "_law_list" ["bag"] (ze6)
abbrev Γ30 := FnH P w K mg base 12 "_law_right" ["wishes"] (zdQ)
end
theorem zq2 : 2 ≤ sizeLine := by decide
theorem zq3 : 3 ≤ sizeLine := by decide
variable {f : Addr} {fd : FuncData} (B : Bl mg) {t_MOST_LETTERS : Tok} (C_MOST_LETTERS : mg "MOST_LETTERS" = some (.int 8 t_MOST_LETTERS))
include B C_MOST_LETTERS
theorem zfw (F : Fun K "is_whole" "is_whole" zcd f fd)  : FnOk P w K mg base CX0 1 f fd ["thing"] (zcJ K) := by
 refine F.ok zfh (fun vs H Q E h => ?_) (fun cdv A outer s H vs Q E hr h => ?_)
 · obtain ⟨v, t, rfl, hty, q⟩ := h
   rfl
 obtain ⟨v, t, rfl, hty, q⟩ := h
 refine ⟨_, (zaf (zak (zcz (zai (zam (n := "")) rfl B.isinstance_ zaj (zaa (pv 0) (zaa (zaD (v := .ty "int") rfl B.int_ zgf rfl) zab))) (zbq (ziK (zai (zam (n := "")) rfl B.isinstance_ zaj (zaa (pv 0) (zaa (zaD (v := .ty "bool") rfl B.bool_ zek rfl) zab)))))))), ?_⟩
 cases hty
 all_goals first
  | exact ⟨_, rfl, _, "int", "int", true, rfl, .int _, rfl, _, rfl, iteT ⟨_, rfl, _, "int", "bool", false, rfl, .int _, rfl, _, rfl, q⟩⟩
  | exact ⟨_, rfl, _, "bool", "int", true, rfl, .bl _, rfl, _, rfl, iteT ⟨_, rfl, _, "bool", "bool", true, rfl, .bl _, rfl, _, rfl, q⟩⟩
  | exact ⟨_, rfl, _, _, "int", false, rfl, (by first | exact .non | exact .str _ | exact .flt _ | (exact .lst (by assumption)) | (exact .frz (by assumption)) | (exact .tup (by assumption)) | (exact .dK (by assumption)) | (exact .dT (by assumption))), rfl, _, rfl, iteF q⟩
theorem zhh (F : Fun K "is_end" "is_end" zc5 f fd) (G_is_whole : Γ0 P w K mg base) : FnOk P w K mg base CX0 2 f fd ["thing"] (zi1 K) := by
 refine F.ok zgX (fun vs H Q E h => ?_) (fun cdv A outer s H vs Q E hr h => ?_)
 · obtain ⟨v, t, rfl, hty, q⟩ := h
   rfl
 obtain ⟨v, t, rfl, hty, q⟩ := h
 refine ⟨_, (zaf (zak (zfm (zck (zbC (pv 0))) (zbq (zau G_is_whole (hr.mono (by decide)) rfl (zaa (pv 0) zab)))))), ?_⟩
 refine ⟨_, rfl, _, rfl, ?_⟩
 cases hty
 case non => exact iteT q
 all_goals refine iteF ?_
 case int i => exact ⟨_, rfl, _, _, rfl, .int _, q⟩
 all_goals exact ⟨_, rfl, _, _, rfl, (by first | exact .bl _ | exact .str _ | exact .flt _ | (exact .lst (by assumption)) | (exact .frz (by assumption)) | (exact .tup (by assumption)) | (exact .dK (by assumption)) | (exact .dT (by assumption))), q⟩
theorem zgx (F : Fun K "is_span" "is_span" zcu f fd) (G_is_end : Γ1 P w K mg base) : FnOk P w K mg base CX0 3 f fd ["thing"] (zdT K) := by
 refine F.ok sc_is_span (fun vs H Q E h => ?_) (fun cdv A outer s H vs Q E hr h => ?_)
 · obtain ⟨v, t, rfl, hty, hp, q⟩ := h
   rfl
 obtain ⟨v, t, rfl, hty, hp, q⟩ := h
 refine ⟨_, (zae (zaK (PW.pt (zbX (zaR (zaN (zai (zam (n := "")) rfl B.isinstance_ zaj (zaa (pv 0) (zaa (zaD (v := .ty "tuple") rfl B.tuple_ zbt rfl) zab))))) (zbp (zan zdk (zai zat rfl B.len_ zaY (zaa (pv 0) zab)) zac (zaq _))))) (zaf (zak zbB)) zar)
  (zae (zdg (pv 0) (zdh rfl (zax (zas (i := 1) sc_is_span.nd rfl (Or.inl rfl)) (zax (zas (i := 2) sc_is_span.nd rfl (Or.inl rfl)) zbL))))
  (zae (zaK (PW.pt (zbX (zaR (zaN (zau G_is_end (hr.mono (by decide)) rfl (zaa (pv 1) zab)))) (zbp (zaR (zaN (zau G_is_end (hr.mono (by decide)) rfl (zaa (pv 2) zab))))))) (zaf (zak zbB)) zar)
  (zaf (zak (zfm (zck (zbC (pv 1))) (zfm (zck (zbC (pv 2))) (zbq (za2 zii (pv 1) (pv 2) (zaq _)))))))))), ?_⟩
 have q0 : zba H v = false → Q (.bl false) H := fun h => by rw [← h]; exact q
 cases hty
 case tup a xs e =>
  refine ⟨_, rfl, _, "tuple", "tuple", true, rfl, .tup e, rfl, _, rfl, iteF ⟨_, rfl, a, _, rfl, .inr (SqT.of e), rfl, _, rfl, ?_⟩⟩
  by_cases hl : xs.length = 2
  · match xs, hl with
    | [x, y], _ =>
     refine iteF ⟨_, rfl, a, _, rfl, SqT.of e, rfl, _, _, rfl, _, _, rfl, rfl, ?_⟩
     obtain ⟨t1, t2, h1, h2⟩ := hp a x y rfl e
     have es : zba H (.ref a) = (endV x && endV y && leV x y) := by unfold zba; simp only [e]
     rw [es] at q
     refine ⟨_, rfl, _, _, rfl, h1, _, rfl, ?_⟩
     cases ex : endV x with
     | false =>
      rw [ex] at q
      exact iteT q
     | true =>
      rw [ex] at q
      refine iteF ⟨_, rfl, _, _, rfl, h2, _, rfl, ?_⟩
      cases ey : endV y with
      | false =>
       rw [ey] at q
       exact iteT q
      | true =>
       rw [ey] at q
       refine iteF ⟨_, rfl, _, rfl, ?_⟩
       cases x with
       | non => exact iteT q
       | int i =>
        refine iteF ⟨_, rfl, _, rfl, ?_⟩
        cases y with
        | non => exact iteT q
        | int j => exact iteF ⟨_, rfl, _, rfl, _, _, rfl, rfl, q⟩
        | _ => exact absurd ey Bool.false_ne_true
       | _ => exact absurd ex Bool.false_ne_true
  · have es : zba H (.ref a) = false := by
     unfold zba
     simp only [e]
     match xs, hl with
     | [], _ => rfl
     | [_], _ => rfl
     | [_, _], h => exact absurd rfl h
     | _ :: _ :: _ :: _, _ => rfl
    have ed : (!decide (V.int ((xs.length : Nat) : Int) = V.int 2)) = true := by
     have : ¬ V.int ((xs.length : Nat) : Int) = V.int 2 := fun z => by injection z with z; omega
     rw [decide_eq_false this]
     rfl
    rw [es] at q
    show if (!decide (V.int ((xs.length : Nat) : Int) = V.int 2)) = true then _ else _
    rw [ed]
    exact iteT q
 case non => exact ⟨_, rfl, _, _, "tuple", false, rfl, .non, rfl, _, rfl, iteT (q0 rfl)⟩
 case bl b => exact ⟨_, rfl, _, _, "tuple", false, rfl, (.bl b), rfl, _, rfl, iteT (q0 rfl)⟩
 case int i => exact ⟨_, rfl, _, _, "tuple", false, rfl, (.int i), rfl, _, rfl, iteT (q0 rfl)⟩
 case str x => exact ⟨_, rfl, _, _, "tuple", false, rfl, (.str x), rfl, _, rfl, iteT (q0 rfl)⟩
 case flt x => exact ⟨_, rfl, _, _, "tuple", false, rfl, (.flt x), rfl, _, rfl, iteT (q0 rfl)⟩
 case lst a xs e => exact ⟨_, rfl, _, _, "tuple", false, rfl, (.lst e), rfl, _, rfl, iteT (q0 (by unfold zba; simp only [e]))⟩
 case frz a o xs e => exact ⟨_, rfl, _, _, "tuple", false, rfl, (.frz e), rfl, _, rfl, iteT (q0 (by unfold zba; simp only [e]))⟩
 case dK a kvs e => exact ⟨_, rfl, _, _, "tuple", false, rfl, (.dK e), rfl, _, rfl, iteT (q0 (by unfold zba; simp only [e]))⟩
 case dT a kvs e => exact ⟨_, rfl, _, _, "tuple", false, rfl, (.dT e), rfl, _, rfl, iteT (q0 (by unfold zba; simp only [e]))⟩
theorem zfx (F : Fun K "is_field" "is_field" zbz f fd)  : FnOk P w K mg base CX0 1 f fd ["thing"] (ze8) := by
 refine F.ok zfi (fun vs H Q E h => ?_) (fun cdv A outer s H vs Q E hr h => ?_)
 · obtain ⟨x, rfl, F1, q⟩ := h
   rfl
 obtain ⟨x, rfl, F1, q⟩ := h
 refine ⟨_, (zae (zaK (PW.pt (zbX (zaR (zaN (zai (zam (n := "")) rfl B.isinstance_ zaj (zaa (pv 0) (zaa (zaD (v := .ty "str") rfl B.str_ zge rfl) zab))))) (zbp (zaR (zia zii zii zac (zai zb4 rfl B.len_ zaY (zaa (pv 0) zab)) (zhd (v := .int 8) rfl C_MOST_LETTERS ⟨_, rfl⟩)))))) (zaf (zak zbB)) zar)
  (zaf (zak (zai (zcE rfl) rfl B.all_ zeT (zaa (zdy (N' := ["sign"]) (js := [none]) rfl (zc3 (N := ["thing"]) (outer := zah zbz) (by decide +kernel)) (ziJ (pv 0)) (fun _ _ _ _ _ => (zas (i := 0) (show List.Nodup (["sign"] : List Str) by decide +kernel) rfl (Or.inl rfl))) (fun _ _ _ _ _ => zbf) (fun _ _ _ _ _ => (zig zeE zeE zdF (pv 0) zdF))) zab))))), ?_⟩
 have l1 : (1 : Int) ≤ (x.length : Int) := by have := F1.one; omega
 have l8 : (x.length : Int) ≤ 8 := by have := F1.eight; omega
 refine ⟨_, rfl, _, "str", "str", true, rfl, .str x, rfl, _, rfl, iteF ⟨_, rfl, x, rfl, zgp (by have := F1.eight; omega), _, _, rfl, rfl, _, rfl, ?_⟩⟩
 rw [decide_eq_true l1]
 refine iteT ⟨_, _, rfl, rfl, _, rfl, ?_⟩
 rw [decide_eq_true l8]
 refine iteF ⟨_, rfl, x, rfl, fun p hp => ?_⟩
 have s0 := zag hp (.lst [])
 have sl : (L2.signs x).length = x.length := by unfold L2.signs; rw [List.length_map, Array.length_toList]; rfl
 refine ziP (xs := L2.signs x) (fun i σ' ys H' => (∃ v, σ' = [v]) ∧ Same H H' ∧ H' p = some (.lst ys) ∧ ys = List.replicate i (V.bl true)) ⟨⟨none, rfl⟩, s0, zad, rfl⟩ ?_ ?_ ?_
 · rintro i σ' ys H' hi ⟨_, _, h1, h2⟩
   refine ⟨h1, ?_⟩
   rw [h2, List.length_replicate]
   have := F1.eight
   exact zaA (by omega)
 · rintro i y σ' ys H' N hy ⟨⟨v, rfl⟩, s, h1, h2⟩ hN
   unfold L2.signs at hy
   rw [List.getElem?_map] at hy
   cases hc : x.cps.toList[i]? with
   | none => rw [hc] at hy; cases hy
   | some c =>
    rw [hc] at hy
    obtain rfl : V.str ⟨#[c]⟩ = y := Option.some.inj hy
    have ok := F1.all c (List.mem_of_getElem? hc)
    refine ⟨_, rfl, _, _, rfl, rfl, _, rfl, ?_⟩
    rw [ge_a ok]
    refine iteT ⟨_, _, rfl, rfl, ?_⟩
    rw [le_z ok]
    refine ⟨h1, hN _ _ _ ⟨⟨_, rfl⟩, ?_, zad, by rw [h2]; exact List.replicate_succ'.symm⟩⟩
    intro b o q'
    have : b ≠ p := fun z => by rw [z, hp] at q'; cases q'
    rw [zal this]
    exact s b o q'
 · rintro σ' ys H' ⟨_, s, h1, h2⟩
   refine ⟨p, List.replicate (L2.signs x).length true, rfl, SqL.of (by rw [h1, h2, List.map_replicate]), ?_⟩
   have : (List.replicate (L2.signs x).length true).all id = true := by simp
   rw [this]
   exact q H' s
theorem zdo (F : Fun K "is_wish_part" "is_wish_part" za6 f fd) (G_is_field : Γ3 P w K mg base) (G_is_span : Γ2 P w K mg base) : FnOk P w K mg base CX0 4 f fd ["thing"] (zcI) := by
 refine F.ok sc_is_wish_part (fun vs H Q E h => ?_) (fun cdv A outer s H vs Q E hr h => ?_)
 · obtain ⟨p, f, lo, hi, rfl, hp, F1, hle, q⟩ := h
   rfl
 obtain ⟨p, f, lo, hi, rfl, hp, F1, hle, q⟩ := h
 refine ⟨_, (zae (zaK (PW.pt (zbX (zaR (zaN (zai (zam (n := "")) rfl B.isinstance_ zaj (zaa (pv 0) (zaa (zaD (v := .ty "tuple") rfl B.tuple_ zbt rfl) zab))))) (zbp (zan zdk (zai zat rfl B.len_ zaY (zaa (pv 0) zab)) zac (zaq _))))) (zaf (zak zbB)) zar)
  (zae (zdg (pv 0) (zdh rfl (zax (zas (i := 1) sc_is_wish_part.nd rfl (Or.inl rfl)) (zax (zas (i := 2) sc_is_wish_part.nd rfl (Or.inl rfl)) (zax (zas (i := 3) sc_is_wish_part.nd rfl (Or.inl rfl)) zbL)))))
  (zaf (zak (zcz (zau G_is_field (hr.mono (by decide)) rfl (zaa (pv 1) zab)) (zbq (zau G_is_span (hr.mono (by decide)) rfl (zaa (zaQ (zaa (pv 2) (zaa (pv 3) zab))) zab)))))))), ?_⟩
 refine ⟨_, rfl, _, "tuple", "tuple", true, rfl, .tup hp, rfl, _, rfl, iteF ⟨_, rfl, p, _, rfl, .inr (SqT.of hp), rfl, _, rfl, ?_⟩⟩
 refine iteF ⟨_, rfl, p, _, rfl, SqT.of hp, rfl, _, _, rfl, _, _, rfl, _, _, rfl, rfl, ?_⟩
 refine ⟨_, rfl, f, rfl, F1, fun H1 s1 => ⟨_, rfl, iteT ⟨_, rfl, _, rfl, zq2, fun t ht => ?_⟩⟩⟩
 have S : SpanAt (upd H1 t (.tup [eV lo, eV hi])) (.ref t) lo hi := ⟨t, rfl, zad⟩
 refine ⟨.ref t, "tuple", rfl, S.ty.1, S.ty.2, ?_⟩
 rw [zhE S, hle]
 exact q _ (s1.trans (zag ht _))
theorem zc2 (F : Fun K "fields_ascend" "fields_ascend" zaP f fd)  : FnOk P w K mg base CX0 1 f fd ["parts"] (zdV) := by
 refine F.ok zc1 (fun vs H Q E h => ?_) (fun cdv A outer s H vs Q E hr h => ?_)
 · obtain ⟨a, ps, rfl, ha, hl, hp, hlt, q⟩ := h
   rfl
 obtain ⟨a, ps, rfl, ha, hl, hp, hlt, q⟩ := h
 refine ⟨_, (zaf (zak (zai (zcE rfl) rfl B.all_ zeT (zaa (zdy (N' := ["ahead", "behind"]) (js := [none, none]) rfl (zc3 (N := ["parts"]) (outer := zah zaP) (by decide +kernel)) (ziI rfl B.zip_ (zaa (pv 0) (zaa (zbM zgU (pv 0) (zcp zac) zcq) zab))) (fun _ _ _ _ _ => (zha K rfl (n := 2) rfl (zax (zas (i := 0) (show List.Nodup (["ahead", "behind"] : List Str) by decide +kernel) rfl (Or.inl rfl)) (zax (zas (i := 1) (show List.Nodup (["ahead", "behind"] : List Str) by decide +kernel) rfl (Or.inl rfl)) zbL)))) (fun _ _ _ _ _ => zbf) (fun _ _ _ _ _ => (za2 zdl (zaF (zhB K rfl) (pv 0) zac (fun _ _ => rfl)) (zaF (zhB K rfl) (pv 1) zac (fun _ _ => rfl)) (zaq _)))) zab)))), ?_⟩
 refine ⟨_, rfl, _, rfl, _, rfl, ?_⟩
 dsimp only [zgL]
 refine zi3 (SqT.of ha) fun p1 H1 s1 q1 => ?_
 refine ⟨a, p1, rfl, ⟨_, s1.seqT (SqT.of ha)⟩, ⟨_, q1⟩, fun p hp' => ?_⟩
 have s0 := zag hp' (.lst [])
 have ld : ((ps.map fun p => V.ref p.1).drop 1).length = ps.length - 1 := by rw [List.length_drop, List.length_map]
 refine zjR (n := ps.length - 1) (xs := ps.map fun p => V.ref p.1) (ys := (ps.map fun p => V.ref p.1).drop 1) (by rw [List.length_map]; omega) (by rw [ld]; exact Nat.le_refl _) (.inr (by rw [ld]; exact Nat.le_refl _))
  (fun i σ' ys H' => (∃ v w, σ' = [v, w]) ∧ Same H1 H' ∧ H' p = some (.lst ys) ∧ ys = List.replicate i (V.bl true)) ⟨⟨none, none, rfl⟩, s0, zad, rfl⟩ ?_ ?_ ?_
 · rintro i σ' zs H' hi ⟨_, s, h1, h2⟩
   refine ⟨(s1.trans s).seqT (SqT.of ha), s.seqT q1, h1, ?_⟩
   rw [h2, List.length_replicate]
   exact zaA (by omega)
 · rintro i x y σ' zs H' r N hx hy hr' ⟨⟨v, w', rfl⟩, s, h1, h2⟩ hN
   rw [List.getElem?_map] at hx
   rw [List.getElem?_drop, List.getElem?_map, Nat.add_comm] at hy
   cases e1 : ps[i]? with
   | none => rw [e1] at hx; cases hx
   | some P1 =>
    cases e2 : ps[i + 1]? with
    | none => rw [e2] at hy; cases hy
    | some P2 =>
     rw [e1] at hx
     rw [e2] at hy
     obtain rfl : V.ref P1.1 = x := Option.some.inj hx
     obtain rfl : V.ref P2.1 = y := Option.some.inj hy
     have s3 := zag hr' (.tup [V.ref P1.1, V.ref P2.1])
     have t3 := (s1.trans s).trans s3
     have f1 := t3 _ _ (hp P1 (List.mem_of_getElem? e1))
     have f2 := t3 _ _ (hp P2 (List.mem_of_getElem? e2))
     refine ⟨r, _, rfl, SqT.of zad, rfl, _, _, rfl, _, _, rfl, rfl, ?_⟩
     refine ⟨_, rfl, P1.1, _, 0, _, rfl, rfl, SqT.of f1, at0, _, rfl, P2.1, _, 0, _, rfl, rfl, SqT.of f2, at0, _, _, rfl, rfl, ?_⟩
     rw [decide_eq_true (show P1.2.1.cps.toList < P2.2.1.cps.toList from hlt i P1 P2 e1 e2)]
     refine ⟨s3 _ _ h1, hN _ _ _ ⟨⟨_, _, rfl⟩, ?_, zad, by rw [h2]; exact List.replicate_succ'.symm⟩⟩
     intro b o q'
     have : b ≠ p := fun z => by rw [z, hp'] at q'; cases q'
     rw [zal this]
     exact s3 _ _ (s b o q')
 · rintro σ' zs H' ⟨_, s, h1, h2⟩
   refine ⟨p, List.replicate (ps.length - 1) true, rfl, SqL.of (by rw [h1, h2, List.map_replicate]), ?_⟩
   have : (List.replicate (ps.length - 1) true).all id = true := by simp
   rw [this]
   exact q H' (s1.trans s)
theorem zgw (F : Fun K "is_wish" "is_wish" zbW f fd) (G_fields_ascend : Γ5 P w K mg base) (G_is_wish_part : Γ4 P w K mg base) : FnOk P w K mg base CX0 5 f fd ["thing"] (zdS) := by
 refine F.ok zgq (fun vs H Q E h => ?_) (fun cdv A outer s H vs Q E hr h => ?_)
 · obtain ⟨a, w', rfl, hw, wok, q⟩ := h
   rfl
 obtain ⟨a, w', rfl, hw, wok, q⟩ := h
 refine ⟨_, (zae (zaK (zaR (zaN (zai (zam (n := "")) rfl B.isinstance_ zaj (zaa (pv 0) (zaa (zaD (v := .ty "tuple") rfl B.tuple_ zbt rfl) zab))))) (zaf (zak zbB)) zar)
  (zaf (zak (zcz (zai (zcE rfl) rfl B.all_ zeT (zaa (zdy (N' := ["part"]) (js := [none]) rfl (zc3 (N := ["thing"]) (outer := zah zbW) (by decide +kernel)) (zg9 (pv 0)) (fun _ _ _ _ _ => (zas (i := 0) (show List.Nodup (["part"] : List Str) by decide +kernel) rfl (Or.inl rfl))) (fun _ _ _ _ _ => zbf) (fun _ _ _ _ _ => (zau G_is_wish_part (hr.mono (by decide)) rfl (zaa (pv 0) zab)))) zab)) (zbq (zau G_fields_ascend (hr.mono (by decide)) rfl (zaa (pv 0) zab))))))), ?_⟩
 obtain ⟨ps, rfl, hA, hP⟩ := hw
 have ll : ps.length ≤ 100 := by have := wok.len; rw [List.length_map] at this; exact this
 refine ⟨_, rfl, _, "tuple", "tuple", true, rfl, .tup hA, rfl, _, rfl, iteF ?_⟩
 refine ⟨_, rfl, a, rfl, ⟨_, SqT.of hA⟩, fun p hp => ?_⟩
 refine ziO (xs := ps.map fun p => V.ref p.1) (fun i σ' ys H' => (∃ v, σ' = [v]) ∧ Same H H' ∧ H' p = some (.lst ys) ∧ ys = List.replicate i (V.bl true)) ⟨⟨none, rfl⟩, zag hp _, zad, rfl⟩ ?_ ?_ ?_
 · rintro i σ' ys H' hi ⟨_, s, h1, h2⟩
   refine ⟨s.seqT (SqT.of hA), h1, ?_⟩
   rw [h2, List.length_replicate]
   rw [List.length_map] at hi
   exact zaA (by omega)
 · rintro i x σ' ys H' N hx ⟨⟨v, rfl⟩, s, h1, h2⟩ hN
   rw [List.getElem?_map] at hx
   cases e1 : ps[i]? with
   | none => rw [e1] at hx; cases hx
   | some P1 =>
    rw [e1] at hx
    obtain rfl : V.ref P1.1 = x := Option.some.inj hx
    have hm := List.mem_of_getElem? e1
    obtain ⟨o1, o2⟩ := wok.ok P1.2 (List.mem_map_of_mem hm)
    refine ⟨_, rfl, P1.1, P1.2.1, P1.2.2.1, P1.2.2.2, rfl, s _ _ (hP P1 hm), o1, o2, fun H2 s2 => ?_⟩
    refine ⟨s2 _ _ h1, hN _ _ _ ⟨⟨_, rfl⟩, zcH (s.trans s2) hp, zad, by rw [h2]; exact List.replicate_succ'.symm⟩⟩
 · rintro σ' ys H' ⟨_, s, h1, h2⟩
   refine ⟨p, List.replicate (ps.map fun p => V.ref p.1).length true, rfl, SqL.of (by rw [h1, h2, List.map_replicate]), _, rfl, ?_⟩
   rw [show (List.replicate (ps.map fun p => V.ref p.1).length true).all id = true by simp]
   refine iteT ⟨_, rfl, a, ps.map (fun p => (p.1, p.2.1, [eV p.2.2.1, eV p.2.2.2])), rfl, ?_, by rw [List.length_map]; exact ll, ?_, ?_, fun H2 s2 => q H2 (s.trans s2)⟩
   · rw [List.map_map]; exact s _ _ hA
   · intro r hr
     rw [List.mem_map] at hr
     obtain ⟨P1, hm, rfl⟩ := hr
     exact s _ _ (hP P1 hm)
   · intro i r1 r2 h3 h4
     rw [List.getElem?_map] at h3 h4
     cases e1 : ps[i]? with
     | none => rw [e1] at h3; cases h3
     | some P1 =>
      cases e2 : ps[i + 1]? with
      | none => rw [e2] at h4; cases h4
      | some P2 =>
       rw [e1] at h3
       rw [e2] at h4
       obtain rfl := Option.some.inj h3
       obtain rfl := Option.some.inj h4
       have l2 := (List.getElem?_eq_some_iff.mp e2).1
       have := List.pairwise_iff_getElem.mp wok.asc i (i + 1) (by simp; omega) (by simp; omega) (by omega)
       simp only [List.getElem_map] at this
       rw [(List.getElem?_eq_some_iff.mp e1).2, (List.getElem?_eq_some_iff.mp e2).2] at this
       exact this
theorem zd8 (F : Fun K "are_wishes" "are_wishes" za9 f fd) (G_is_wish : Γ6 P w K mg base) : FnOk P w K mg base CX0 6 f fd ["thing"] (ze9) := by
 refine F.ok zdZ (fun vs H Q E h => ?_) (fun cdv A outer s H vs Q E hr h => ?_)
 · obtain ⟨l, ws, rfl, hw, q⟩ := h
   rfl
 obtain ⟨l, ws, rfl, hw, q⟩ := h
 refine ⟨_, (zaf (zak (zcz (zai (zam (n := "")) rfl B.isinstance_ zaj (zaa (pv 0) (zaa (zaD (v := .ty "list") rfl B.list_ zcs rfl) zab))) (zbq (zai (zcE rfl) rfl B.all_ zeT (zaa (zdy (N' := ["wish"]) (js := [none]) rfl (zc3 (N := ["thing"]) (outer := zah za9) (by decide +kernel)) (zcr (pv 0)) (fun _ _ _ _ _ => (zas (i := 0) (show List.Nodup (["wish"] : List Str) by decide +kernel) rfl (Or.inl rfl))) (fun _ _ _ _ _ => zbf) (fun _ _ _ _ _ => (zau G_is_wish (hr.mono (by decide)) rfl (zaa (pv 0) zab)))) zab)))))), ?_⟩
 have hA := hw.at'
 refine ⟨_, rfl, _, "list", "list", true, rfl, .lst hA, rfl, _, rfl, iteT ?_⟩
 refine ⟨_, rfl, l, rfl, ⟨_, SqL.of hA⟩, fun p hp => ?_⟩
 refine zhu (xs := ws.map fun x => V.ref x.1) (fun i σ' ys H' => (∃ v, σ' = [v]) ∧ Same H H' ∧ H' p = some (.lst ys) ∧ ys = List.replicate i (V.bl true)) ⟨⟨none, rfl⟩, zag hp _, zad, rfl⟩ ?_ ?_ ?_
 · rintro i σ' ys H' hi ⟨_, s, h1, h2⟩
   refine ⟨s.seq (SqL.of hA), h1, ?_⟩
   rw [h2, List.length_replicate]
   rw [List.length_map] at hi
   have := hw.len
   exact zaA (by omega)
 · rintro i x σ' ys H' N hx ⟨⟨v, rfl⟩, s, h1, h2⟩ hN
   rw [List.getElem?_map] at hx
   cases e1 : ws[i]? with
   | none => rw [e1] at hx; cases hx
   | some P1 =>
    rw [e1] at hx
    obtain rfl : V.ref P1.1 = x := Option.some.inj hx
    obtain ⟨o1, o2⟩ := hw.ok P1 (List.mem_of_getElem? e1)
    refine ⟨_, rfl, P1.1, P1.2, rfl, o1.same s, o2, fun H2 s2 => ?_⟩
    refine ⟨s2 _ _ h1, hN _ _ _ ⟨⟨_, rfl⟩, zcH (s.trans s2) hp, zad, by rw [h2]; exact List.replicate_succ'.symm⟩⟩
 · rintro σ' ys H' ⟨_, s, h1, h2⟩
   refine ⟨p, List.replicate (ws.map fun x => V.ref x.1).length true, rfl, SqL.of (by rw [h1, h2, List.map_replicate]), ?_⟩
   rw [show (List.replicate (ws.map fun x => V.ref x.1).length true).all id = true by simp]
   exact q _ s
theorem zdp (F : Fun K "check_wishes" "check_wishes" za7 f fd) (G_are_wishes : Γ7 P w K mg base) : FnOk P w K mg base CX0 7 f fd ["thing"] (zdU) := by
 refine F.ok zdd (fun vs H Q E h => ?_) (fun cdv A outer s H vs Q E hr h => ?_)
 · obtain ⟨l, ws, rfl, hw, q⟩ := h
   rfl
 obtain ⟨l, ws, rfl, hw, q⟩ := h
 refine ⟨_, (zaf (zaK (zaR (zaN (zau G_are_wishes (hr.mono (by decide)) rfl (zaa (pv 0) zab)))) (zaf zic) zar)), ?_⟩
 exact ⟨_, rfl, l, ws, rfl, hw, fun H' s => ⟨_, rfl, iteF (q H' s)⟩⟩
theorem zdz (F : Fun K "rank_of_low" "rank_of_low" zbc f fd)  : FnOk P w K mg base CX0 1 f fd ["low"] (zgQ) := by
 refine F.ok zdx (fun vs H Q E h => ?_) (fun cdv A outer s H vs Q E hr h => ?_)
 · obtain ⟨o, rfl, q⟩ := h
   rfl
 obtain ⟨o, rfl, q⟩ := h
 refine ⟨_, (zaf (zak (zcy (zcW (zbC (pv 0))) (zaQ (zaa zac (zaa zac zab))) (zaQ (zaa zac (zaa (pv 0) zab)))))), ?_⟩
 cases o with
 | none => exact ⟨_, rfl, _, rfl, iteT ⟨zq2, fun t ht => q t _ (zag ht _) zad⟩⟩
 | some l => exact ⟨_, rfl, _, rfl, iteF ⟨_, rfl, zq2, fun t ht => q t _ (zag ht _) zad⟩⟩
theorem zdm (F : Fun K "rank_of_high" "rank_of_high" za5 f fd)  : FnOk P w K mg base CX0 1 f fd ["high"] (ze3) := by
 refine F.ok zda (fun vs H Q E h => ?_) (fun cdv A outer s H vs Q E hr h => ?_)
 · obtain ⟨o, rfl, q⟩ := h
   rfl
 obtain ⟨o, rfl, q⟩ := h
 refine ⟨_, (zaf (zak (zcy (zcW (zbC (pv 0))) (zaQ (zaa zac (zaa zac zab))) (zaQ (zaa zac (zaa (pv 0) zab)))))), ?_⟩
 cases o with
 | none => exact ⟨_, rfl, _, rfl, iteT ⟨zq2, fun t ht => q t _ (zag ht _) zad⟩⟩
 | some l => exact ⟨_, rfl, _, rfl, iteF ⟨_, rfl, zq2, fun t ht => q t _ (zag ht _) zad⟩⟩
theorem zjc (F : Fun K "rank" "rank" zeu f fd) (G_rank_of_low : Γ9 P w K mg base) (G_rank_of_high : Γ10 P w K mg base) : FnOk P w K mg base CX0 2 f fd ["wish"] (zgP K) := by
 refine F.ok zi5 (fun vs H Q E h => ?_) (fun cdv A outer s H vs Q E hr h => ?_)
 · obtain ⟨a, w', rfl, hw, wok, q⟩ := h
   rfl
 obtain ⟨a, w', rfl, hw, wok, q⟩ := h
 refine ⟨_, (zaf (zak (zdy (N' := ["field", "low", "high"]) (js := [none, none, none]) rfl (zc3 (N := ["wish"]) (outer := zah zeu) (by decide +kernel)) (zg9 (pv 0)) (fun _ _ _ _ _ => (zha K rfl (n := 3) rfl (zax (zas (i := 0) (show List.Nodup (["field", "low", "high"] : List Str) by decide +kernel) rfl (Or.inl rfl)) (zax (zas (i := 1) (show List.Nodup (["field", "low", "high"] : List Str) by decide +kernel) rfl (Or.inl rfl)) (zax (zas (i := 2) (show List.Nodup (["field", "low", "high"] : List Str) by decide +kernel) rfl (Or.inl rfl)) zbL))))) (fun _ _ _ _ _ => zbf) (fun _ _ _ _ _ => (zaQ (zaa (pv 0) (zaa (zau G_rank_of_low (hr.mono (by decide)) rfl (zaa (pv 1) zab)) (zaa (zau G_rank_of_high (hr.mono (by decide)) rfl (zaa (pv 2) zab)) zab)))))))), ?_⟩
 obtain ⟨ps, rfl, hA, hP⟩ := hw
 have ll : ps.length ≤ 100 := by have := wok.len; rw [List.length_map] at this; exact this
 refine ⟨_, rfl, a, rfl, ⟨_, SqT.of hA⟩, fun p hp => ?_⟩
 refine ziO (xs := ps.map fun p => V.ref p.1) (fun j σ' ys H2 => (∃ v1 v2 v3, σ' = [v1, v2, v3]) ∧ Same H H2 ∧ H2 p = some (.lst ys) ∧ ∃ qs : List (Addr × Addr × Addr × WP), ys = qs.map (fun q => V.ref q.1) ∧ qs.map (·.2.2.2) = (ps.map (·.2)).take j ∧ ∀ q ∈ qs, RkAt H2 q) ⟨⟨none, none, none, rfl⟩, zag hp _, zad, [], rfl, rfl, fun q hq => by simp at hq⟩ ?_ ?_ ?_
 · rintro j σ' ys H2 hj ⟨_, s2, h1, qs, rfl, h3, _⟩
   refine ⟨s2.seqT (SqT.of hA), h1, ?_⟩
   have := congrArg List.length h3
   rw [List.length_map, List.length_take, List.length_map] at this
   rw [List.length_map]
   exact zaA (by omega)
 · rintro j y σ' ys H2 N hy ⟨⟨v1, v2, v3, rfl⟩, s2, h1, qs, rfl, h3, h4⟩ hN
   rw [List.getElem?_map] at hy
   cases e2 : ps[j]? with
   | none => rw [e2] at hy; cases hy
   | some P2 =>
    rw [e2] at hy
    obtain rfl : V.ref P2.1 = y := Option.some.inj hy
    have hm2 := List.mem_of_getElem? e2
    have ep : (ps.map (·.2))[j]? = some P2.2 := by rw [List.getElem?_map, e2]; rfl
    refine ⟨P2.1, _, rfl, SqT.of (s2 _ _ (hP P2 hm2)), rfl, _, _, rfl, _, _, rfl, _, _, rfl, rfl, ?_⟩
    refine ⟨_, rfl, _, rfl, P2.2.2.1, rfl, fun t1 H3 s3 e3 => ?_⟩
    refine ⟨_, rfl, P2.2.2.2, rfl, fun t2 H4 s4 e4 => ?_⟩
    refine ⟨zq3, fun t ht => ?_⟩
    have st := zag ht (.tup [V.str P2.2.1, .ref t1, .ref t2])
    have s5 := (s3.trans s4).trans st
    have h5 := s5 _ _ h1
    have tl := zdN (o := .lst (qs.map (fun q => V.ref q.1) ++ [V.ref t])) h5
    refine ⟨h5, hN _ _ _ ⟨⟨_, _, _, rfl⟩, zcH (s2.trans s5) hp, zad, qs ++ [(t, t1, t2, P2.2)], ?_, ?_, ?_⟩⟩
    · rw [List.map_append]; rfl
    · rw [List.map_append, h3, zaE ep]; rfl
    · intro q hq
      rcases List.mem_append.mp hq with z | z
      · exact (h4 q z).keep (s5.tups.trans tl)
      · rw [List.mem_singleton.mp z]
        exact ⟨tl _ _ zad, tl _ _ (st _ _ (s4 _ _ e3)), tl _ _ (st _ _ e4)⟩
 · rintro σ' ys H2 ⟨_, s2, h1, qs, rfl, h3, h4⟩
   have et : (ps.map (·.2)).take (ps.map fun p => V.ref p.1).length = ps.map (·.2) := List.take_of_length_le (by simp)
   rw [et] at h3
   have := zjz (K := K) h1 h4
   rw [h3] at this
   exact q _ _ s2 this
theorem zfy (F : Fun K "in_order" "in_order" zce f fd) (G_check_wishes : Γ8 P w K mg base) (G_rank : Γ11 P w K mg base) : FnOk P w K mg base CX0 11 f fd ["wishes"] (zcL) := by
 refine F.ok zfj (fun vs H Q E h => ?_) (fun cdv A outer s H vs Q E hr h => ?_)
 · obtain ⟨l, ws, rfl, hw, q⟩ := h
   rfl
 obtain ⟨l, ws, rfl, hw, q⟩ := h
 refine ⟨_, (zae (zbK (zau G_check_wishes (hr.mono (by decide)) rfl (zaa (pv 0) zab)))
  (zaf (zak (zhc G_rank (hr.mono (by decide)) rfl B.sorted_ rfl (zaa (pv 0) zab))))), ?_⟩
 refine ⟨_, rfl, l, ws, rfl, hw, fun H1 s1 => ?_⟩
 have hw1 := hw.same s1
 have lm : (ws.map fun x => V.ref x.1).length = ws.length := List.length_map _
 refine ⟨_, rfl, l, _, fun i => rkD (ws.getD i (0, [])).2, rfl, SqL.of hw1.at', by rw [lm]; have := hw.len; omega, ?refs, ?cons, ?_, fun i => ⟨_, rfl⟩, fun i => Nat.le_trans (ziv _) (by decide), fun i j _ _ => zjf _ _, zjK _, ?_⟩
 case refs =>
  intro v hv
  obtain ⟨x, _, rfl⟩ := List.mem_map.mp hv
  exact ⟨_, rfl⟩
 case cons =>
  intro i j hi hj e
  rw [lm] at hi hj
  rw [List.getElem?_map, List.getElem?_map] at e
  have ei : ws[i]? = some ws[i] := by simp
  have ej : ws[j]? = some ws[j] := by simp
  rw [ei, ej] at e
  have ea : ws[i].1 = ws[j].1 := by
   have := Option.some.inj e
   injection this
  have w1 := (hw1.ok _ (List.mem_of_getElem? ei)).1
  have w2 := (hw1.ok _ (List.mem_of_getElem? ej)).1
  rw [ea] at w1
  have := w1.inj w2
  show rkD (ws.getD i (0, [])).2 = rkD (ws.getD j (0, [])).2
  rw [List.getD_eq_getElem?_getD, List.getD_eq_getElem?_getD, ei, ej]
  show rkD ws[i].2 = rkD ws[j].2
  rw [this]
 · intro i v hv H2 s2 Q1 hQ
   rw [List.getElem?_map] at hv
   cases e1 : ws[i]? with
   | none => rw [e1] at hv; cases hv
   | some P1 =>
    rw [e1] at hv
    obtain rfl : V.ref P1.1 = v := Option.some.inj hv
    obtain ⟨o1, o2⟩ := hw1.ok P1 (List.mem_of_getElem? e1)
    have e2 : ws.getD i (0, []) = P1 := by rw [List.getD_eq_getElem?_getD, e1]; rfl
    exact ⟨P1.1, P1.2, rfl, o1.same s2, o2, fun v' H' s' r' => hQ v' H' s' (by show Rep K H' (rkD (ws.getD i (0, [])).2) v'; rw [e2]; exact r')⟩
 · intro r p H' ok srt s2 nr e'
   rw [lm] at ok srt
   have hsz := ok.size
   have em : (p.toList.map fun i => (ws.map fun x => V.ref x.1).getD i .non) = (p.toList.map fun i => ws.getD i (0, [])).map fun x => V.ref x.1 := by
    rw [List.map_map]
    refine List.map_congr_left fun i hi => ?_
    have hi' : i < ws.length := List.mem_range.mp (ok.perm.mem_iff.mp hi)
    rw [ziq (fun x : Addr × List WP => V.ref x.1) (0, []) V.non ws hi']
    rfl
   rw [em] at e'
   refine q r _ H' (s1.trans s2) (s1.free nr) (zif (0, []) ok) ?_ e'
   rw [List.pairwise_iff_getElem]
   intro i j hi hj hij
   simp only [List.length_map, Array.length_toList] at hi hj
   simp only [List.getElem_map, Array.getElem_toList]
   have h1 := srt i j hij (by omega)
   have k1 : KS.K p i = p[i] := by show p.getD i 0 = _; simp [Array.getD, hi]
   have k2 : KS.K p j = p[j] := by show p.getD j 0 = _; simp [Array.getD, hj]
   rw [k1, k2] at h1
   exact h1
theorem zgv (F : Fun K "_law_bag" "_law_bag" zby f fd)  : FnOk P w K mg base CX0 1 f fd ["script"] (zi2 K) := by
 refine F.ok sc_law_bag (fun vs H Q E h => ?_) (fun cdv A outer s H vs Q E hr h => ?_)
 · obtain ⟨a, ns, rfl, hS, h63, q⟩ := h
   rfl
 obtain ⟨a, ns, rfl, hS, h63, q⟩ := h
 refine ⟨_, (zae (zfX (N' := ["cell"]) (js := [none]) (i := 1) sc_law_bag.nd rfl (Or.inl rfl) rfl (zc3 (N := ["script", "great", "lesser", "stir", "cell"]) (outer := zah zby) (by decide +kernel)) (zcr (zbM zfe (pv 0) zcq (zcp zac))) (fun _ _ _ _ _ => (zas (i := 0) (show List.Nodup (["cell"] : List Str) by decide +kernel) rfl (Or.inl rfl))) (fun _ _ _ _ _ => zd5 (zan zkj (pv 0) (zaC zbu zac zac) (zaq _))) (fun _ _ _ _ _ => (zaC zbZ (pv 0) (zaC zbu zac zac))))
  (zae (zfX (N' := ["cell"]) (js := [none]) (i := 2) sc_law_bag.nd rfl (Or.inl rfl) rfl (zc3 (N := ["script", "great", "lesser", "stir", "cell"]) (outer := zah zby) (by decide +kernel)) (zcr (zbM zfe (pv 0) zcq (zcp zac))) (fun _ _ _ _ _ => (zas (i := 0) (show List.Nodup (["cell"] : List Str) by decide +kernel) rfl (Or.inl rfl))) (fun _ _ _ _ _ => zd5 (zan zfn (pv 0) (zaC zbu zac zac) (zaq _))) (fun _ _ _ _ _ => (zaC zdG (pv 0) (zaC zbu zac zac))))
  (zae (zaI (i := 3) sc_law_bag.nd rfl (Or.inl rfl) zac)
  (zae (zcx PassesOwn.never rfl (zcr (pv 2)) (zas (i := 4) sc_law_bag.nd rfl (Or.inl rfl)) (zaf (zaI (i := 3) sc_law_bag.nd rfl (Or.inl rfl) (zaC zdG (zaC zbu (zaC zbs (zaC zbs (pv 3) (pv 4)) zac) zac) zac))))
  (zaf (zak (zbr (zaa (pv 1) (zaa (zaC zjN (pv 2) (zbr (zaa zac zab))) (zaa zac (zaa (pv 3) zab))))))))))), ?_⟩
 have e18 : (10 : Int) ^ (18 : Int).toNat = 10 ^ 18 := by decide
 have cut : cutV (ns.map V.int) none (some 63) = ns.map V.int := by
  unfold cutV
  rw [show HT.sIx (ns.map V.int).length 0 none = 0 from rfl, show HT.sIx (ns.map V.int).length (ns.map V.int).length (some 63) = min 63 (ns.map V.int).length from HT.sIx_nat _ _ 63]
  rw [List.drop_zero]
  exact List.take_of_length_le (by rw [List.length_map]; omega)
 refine ⟨_, rfl, _, rfl, a, _, rfl, hS, fun p1 hp1 => ⟨p1, rfl, ⟨_, SqL.of zad⟩, fun p hp => ?_⟩⟩
 refine zhv (cap := []) ns (fun n => n - 10 ^ (18 : Int).toNat) (fun n => decide ((10 : Int) ^ (18 : Int).toNat ≤ n)) (by omega) (SqL.of (by rw [zad, cut])) hp ?_ ?_ ?_ ?_
 · rfl
 · exact fun n H' R s r => ⟨_, rfl, _, _, rfl, rfl, pw10 (by decide) (by decide), _, _, rfl, rfl, _, rfl, r⟩
 · exact fun n H' R s r => ⟨_, rfl, _, _, rfl, rfl, pw10 (by decide) (by decide), _, _, rfl, rfl, r⟩
 intro H1 s1 h1
 have t1 : Same H H1 := (zag hp1 _).trans s1
 have pn1 : H p = none := (zag hp1 _).free hp
 refine ⟨_, rfl, _, rfl, a, _, rfl, t1.seq hS, fun p2 hp2 => ⟨p2, rfl, ⟨_, SqL.of zad⟩, fun p' hp' => ?_⟩⟩
 refine zhv (cap := []) ns (fun n => n % 10 ^ (18 : Int).toNat) (fun n => decide (n < (10 : Int) ^ (18 : Int).toNat)) (by omega) (SqL.of (by rw [zad, cut])) hp' ?_ ?_ ?_ ?_
 · rfl
 · exact fun n H' R s r => ⟨_, rfl, _, _, rfl, rfl, pw10 (by decide) (by decide), _, _, rfl, rfl, _, rfl, r⟩
 · exact fun n H' R s r => ⟨_, rfl, _, _, rfl, rfl, pw10 (by decide) (by decide), _, _, rfl, rfl, (by show (0 : Int) < 10 ^ (18 : Int).toNat; decide), r⟩
 intro H2 s2 h2
 have t12 : Same H1 H2 := (zag hp2 _).trans s2
 have t2 : Same H H2 := t1.trans t12
 have g2 := t12 _ _ h1
 have lb : ∀ x ∈ (ns.filter fun n => decide (n < (10 : Int) ^ (18 : Int).toNat)).map (fun n => n % 10 ^ (18 : Int).toNat), 0 ≤ x ∧ x < 10 ^ 18 := fun x hx => by
  obtain ⟨y, _, rfl⟩ := List.mem_map.mp hx
  rw [e18]
  exact ⟨Int.emod_nonneg _ (by decide), Int.emod_lt_of_pos _ (by decide)⟩
 have ll := List.length_filter_le (fun n => decide (n < (10 : Int) ^ (18 : Int).toNat)) ns
 have gg := List.length_filter_le (fun n => decide ((10 : Int) ^ (18 : Int).toNat ≤ n)) ns
 generalize hls : (ns.filter fun n => decide (n < (10 : Int) ^ (18 : Int).toNat)).map (fun n => n % 10 ^ (18 : Int).toNat) = ls at *
 have lz : ls.length ≤ 63 := by rw [← hls, List.length_map]; omega
 have gz : ((ns.filter fun n => decide ((10 : Int) ^ (18 : Int).toNat ≤ n)).map fun n => n - 10 ^ (18 : Int).toNat).length ≤ 63 := by rw [List.length_map]; omega
 refine ⟨_, rfl, p', rfl, ⟨_, SqL.of h2⟩, zc6 (K := K) (a := p') (xs := ls.map V.int) (fun i σ H' => ∃ (st : Int) (x4 : Option V), σ = [some (.ref a), some (.ref p), some (.ref p'), some (.int st), x4] ∧ H' = H2 ∧ 0 ≤ st ∧ st < bigM) ⟨5, none, rfl, rfl, by decide, by decide⟩ (fun i σ H' _ ⟨_, _, _, e, _⟩ => by rw [e]; exact SqL.of h2) ?_ ?_⟩
 · rintro i x σ H' hx ⟨st, x4, rfl, rfl, z0, z1⟩
   rw [List.getElem?_map] at hx
   cases hn : ls[i]? with
   | none => rw [hn] at hx; cases hx
   | some y =>
    rw [hn] at hx
    obtain rfl : V.int y = x := Option.some.inj hx
    obtain ⟨y0, y1⟩ := lb y (List.mem_of_getElem? hn)
    have big : (st + y + 1).natAbs < 2 ^ 1000 := by
     have : (st + y + 1).natAbs < 2 ^ 100 := by unfold bigM at z1; omega
     exact Nat.lt_of_lt_of_le this (by decide)
    refine ⟨_, rfl, _, rfl, _, _, rfl, rfl, _, _, rfl, rfl, _, _, rfl, rfl, ⟨by decide, by decide, big⟩, _, _, rfl, rfl, (by show (0 : Int) < 618970019642690137449562111; decide), _, _, rfl, rfl, Int.emod_nonneg _ (by decide), Int.emod_lt_of_pos _ (by decide)⟩
 · rintro σ H' ⟨st, x4, rfl, rfl, z0, z1⟩
   refine ⟨_, rfl, _, rfl, (by show 1 ≤ sizeLine; decide), fun p3 hp3 => ?_⟩
   have s3 := zag hp3 (.lst [V.int 0])
   refine ⟨p', p3, _, _, rfl, rfl, s3 _ _ h2, zad, (by rw [List.length_map, List.length_singleton]; exact zgp (by omega)), fun p4 hp4 => ?_⟩
   have s4 := zag hp4 (.lst (ls.map V.int ++ [V.int 0]))
   refine ⟨_, rfl, (by show 4 ≤ sizeLine; decide), fun p5 hp5 => ?_⟩
   have s5 := zag hp5 (.lst [V.ref p, V.ref p4, V.int 0, V.int st])
   have t5 : Same H' _ := s3.trans (s4.trans s5)
   have n4 : H' p4 = none := s3.free hp4
   refine q p5 p p4 _ ⟨⟨_, ls ++ [0], 0, st, zad, t5 _ _ g2, ?_, gz, by simp, by rw [List.length_append]; simp; omega, ?_, by decide, by decide, z0, z1⟩, ?_⟩ (t2.trans t5) (t2.free ((s3.trans s4).free hp5)) pn1
   · refine s5 _ _ ?_
     rw [zad, List.map_append]
     rfl
   · intro x hx
     rcases List.mem_append.mp hx with z | z
     · exact lb x z
     · rw [List.mem_singleton.mp z]; exact ⟨by decide, by decide⟩
   · exact zao g2 n4
theorem zfv (F : Fun K "_law_draw" "_law_draw" zcc f fd)  : FnOk P w K mg base CX0 1 f fd ["bag", "many"] (zgS) := by
 refine F.ok sc_law_draw (fun vs H Q E h => ?_) (fun cdv A outer s H vs Q E hr h => ?_)
 · obtain ⟨b, g, l, n, many, rfl, Bg, hn, hm, hm2, q⟩ := h
   rfl
 obtain ⟨b, g, l, n, many, rfl, Bg, hn, hm, hm2, q⟩ := h
 refine ⟨_, (zae (zib PassesOwn.never (PW.pt (zcw (zan (ziL (zbJ hr)) (zaF zaw (pv 0) zac (fun _ _ => rfl)) (zbr zab) (zaq _)) (zbY (zan zbT (zaF zaw (zaF zaw (pv 0) zac (fun _ _ => rfl)) zac (fun _ _ => rfl)) zac (zaq _))))) (zaf (zbK (zdi PySem.F.plainAttrs_list PySem.F.slot_list_pop PySem.F.type_list_pop zij (zaF zaw (pv 0) zac (fun _ _ => rfl)) (zaa zac zab)))))
  (zae (zaK (zan (ziL (zbJ hr)) (zaF zaw (pv 0) zac (fun _ _ => rfl)) (zbr zab) (zaq _)) (zae (zaI (i := 2) sc_law_draw.nd rfl (Or.inl rfl) (zaC zdG (zaF zaw (zaF zaw (pv 0) zac (fun _ _ => rfl)) zac (fun _ _ => rfl)) (pv 1)))
  (zae (zdg (zaC zfY (zaF zaw (zaF zaw (pv 0) zac (fun _ _ => rfl)) zac (fun _ _ => rfl)) (pv 1)) (zhb (zaF zaw (pv 0) zac (fun _ _ => rfl)) zac zdX))
  (zaf (zak (pv 2))))) zar)
  (zae (zdg (zaC zbs (zaF zaw (pv 0) zac (fun _ _ => rfl)) zac) (zhb (pv 0) zac zdX))
  (zae (zaI (i := 3) sc_law_draw.nd rfl (Or.inl rfl) (zaF zaw (zaF zaw (pv 0) zac (fun _ _ => rfl)) (zaC zdG (zaF zaw (pv 0) zac (fun _ _ => rfl)) (zai zat rfl B.len_ zaY (zaa (zaF zaw (pv 0) zac (fun _ _ => rfl)) zab))) (fun _ _ => rfl)))
  (zae (zdg (zaC zdG (zaC zbu (zaC zbs (zaF zaw (pv 0) zac (fun _ _ => rfl)) (zaC zeD (zaC zbs (pv 3) (zaC zeD zac (zaF zaw (pv 0) zac (fun _ _ => rfl)))) (zaC zbs (zaC zeD zac (zaF zaw (pv 0) zac (fun _ _ => rfl))) zac))) zac) zac) (zhb (pv 0) zac zdX))
  (zaf (zak (zaC zdG (zaC zfY (zaF zaw (pv 0) zac (fun _ _ => rfl)) zac) (pv 1))))))))), ?_⟩
 refine zgi (fun m σ H1 => σ = [some (.ref b), some (.int many), none, none] ∧ Bag H1 b g l n ∧ SameB b g H H1 ∧ ∃ gs : List Int, H1 g = some (.lst (gs.map V.int)) ∧ gs.length = m)
  (fun σ H1 => σ = [some (.ref b), some (.int many), none, none] ∧ Bag H1 b g l n ∧ SameB b g H H1) ?_ ?_ ?_
 · obtain ⟨gs, ls, c, st, e1, e2, _⟩ := Bg.ex
   exact ⟨_, rfl, Bg, SameB.refl _ _ _, gs, e2, rfl⟩
 · rintro m σ H1 Z ⟨rfl, B1, S1, gs, e2, rfl⟩ hZ
   obtain ⟨gs', ls, c, st, e1, e2', e3, z1, z2, z3, z4, z5, z6, z7, z8⟩ := id B1.ex
   obtain rfl : gs = gs' := by
    rw [e2] at e2'
    injection e2' with e2'
    injection e2' with e2'
    exact (List.map_inj_right (fun _ _ z => by injection z)).mp e2'
   refine ⟨_, rfl, b, _, 0, _, rfl, rfl, SqL.of e1, rfl, sz0, fun p hp => ?_⟩
   have s1 := zag hp (.lst [])
   refine zjP (SqL.of (s1 _ _ e2)) (SqL.of zad) ⟨_, rfl, ?_⟩
   cases gs with
   | nil => exact iteF (iteF (hZ _ _ ⟨rfl, B1.same s1, S1.trans s1.sameB⟩))
   | cons x r =>
    refine iteT ?_
    refine ⟨_, rfl, b, _, 0, _, rfl, rfl, SqL.of (s1 _ _ e1), rfl, g, _, 0, _, rfl, rfl, SqL.of (s1 _ _ e2), at0, rfl, _, rfl, ?_⟩
    refine ite2 (fun hx => ?_) (fun hx => ?_)
    · refine ⟨fun σ H2 => σ = [some (.ref b), some (.int many), none, none] ∧ Bag H2 b g l n ∧ SameB b g H H2 ∧ ∃ gs : List Int, H2 g = some (.lst (gs.map V.int)) ∧ gs.length = r.length, fun σ H2 z => ⟨r.length, Nat.lt_succ_self _, z⟩, ?_⟩
      refine ⟨_, rfl, b, _, 0, _, rfl, rfl, SqL.of (s1 _ _ e1), rfl, .inl ⟨rfl, _, SqL.of (s1 _ _ e2)⟩, g, _, 0, 0, _, rfl, rfl, s1 _ _ e2, by decide, by decide, (zfF (ix0 (x := V.int x) (r := r.map V.int))).1, rfl, ?_⟩
      have e4 : (upd (upd H1 p (.lst [])) g (.lst (((x :: r).map V.int).eraseIdx 0))) g = some (.lst (r.map V.int)) := zad
      refine ⟨rfl, ⟨⟨r, ls, c, st, ?_, e4, ?_, ?_, z2, z3, z4, z5, z6, z7, z8⟩, B1.gl⟩, ?_, r, e4, rfl⟩
      · rw [zal B1.bg]; exact s1 _ _ e1
      · rw [zal (Ne.symm B1.gl)]; exact s1 _ _ e3
      · simp only [List.length_cons] at z1; omega
      · intro a o h1 h2 h3
        rw [zal h3]
        exact s1 _ _ (S1 a o h1 h2 h3)
    · exact hZ _ _ ⟨rfl, B1.same s1, S1.trans s1.sameB⟩
 · rintro σ H1 ⟨rfl, B1, S1⟩
   obtain ⟨gs, ls, c, st, e1, e2, e3, z1, z2, z3, z4, z5, z6, z7, z8⟩ := id B1.ex
   refine ⟨_, rfl, b, _, 0, _, rfl, rfl, SqL.of e1, rfl, sz0, fun p hp => ?_⟩
   have s1 := zag hp (.lst [])
   have B2 := B1.same s1
   have e1' := s1 _ _ e1
   have e2' := s1 _ _ e2
   have e3' := s1 _ _ e3
   refine zjP (SqL.of e2') (SqL.of zad) ⟨_, rfl, ?_⟩
   generalize upd H1 p (.lst []) = H2 at *
   have S2 : SameB b g H H2 := S1.trans s1.sameB
   clear s1
   cases gs with
   | cons x r =>
    refine iteT ?_
    refine ⟨_, rfl, b, _, 0, _, rfl, rfl, SqL.of e1', rfl, g, _, 0, _, rfl, rfl, SqL.of e2', at0, _, rfl, _, _, rfl, rfl, hm, ?_⟩
    refine ⟨_, rfl, b, _, 0, _, rfl, rfl, SqL.of e1', rfl, g, _, 0, _, rfl, rfl, SqL.of e2', at0, _, rfl, _, _, rfl, rfl, ⟨hm, Int.lt_of_lt_of_le hm2 (by decide)⟩, ?_⟩
    refine ⟨_, rfl, b, _, 0, _, rfl, rfl, SqL.of e1', rfl, g, _, 0, 0, rfl, rfl, e2', ix0, ?_⟩
    refine ⟨_, rfl, ?_⟩
    refine q _ _ (Int.emod_nonneg _ (by omega)) (Int.emod_lt_of_pos _ hm) ⟨⟨x / many :: r, ls, c, st, ?_, ?_, ?_, z1, z2, z3, z4, z5, by omega, z7, z8⟩, B1.gl⟩ ?_
    · rw [zal B1.bg]; exact e1'
    · exact zad
    · rw [zal (Ne.symm B1.gl)]; exact e3'
    · intro a o h1 h2 h3
      rw [zal h3]
      exact S2 a o h1 h2 h3
   | nil =>
    refine iteF ?_
    refine ⟨_, rfl, b, _, 2, _, rfl, rfl, SqL.of e1', rfl, _, _, rfl, rfl, _, rfl, b, _, 2, 2, rfl, rfl, e1', rfl, ?_⟩
    have f1 : (upd H2 b (.lst ([V.ref g, V.ref l, V.int c, V.int st].set 2 (V.int (c + 1))))) b = some (.lst [V.ref g, V.ref l, V.int (c + 1), V.int st]) := zad
    have f2 : (upd H2 b (.lst ([V.ref g, V.ref l, V.int c, V.int st].set 2 (V.int (c + 1))))) g = some (.lst []) := by rw [zal (Ne.symm B1.bg)]; exact e2'
    have f3 : (upd H2 b (.lst ([V.ref g, V.ref l, V.int c, V.int st].set 2 (V.int (c + 1))))) l = some (.lst (ls.map V.int)) := by rw [zal (Ne.symm B1.bl)]; exact e3'
    have S3 : SameB b g H (upd H2 b (.lst ([V.ref g, V.ref l, V.int c, V.int st].set 2 (V.int (c + 1))))) := fun a o h1 h2 h3 => by rw [zal h2]; exact S2 a o h1 h2 h3
    generalize upd H2 b (.lst ([V.ref g, V.ref l, V.int c, V.int st].set 2 (V.int (c + 1)))) = H3 at *
    have lpos : (0 : Int) < ((ls.map V.int).length : Int) := by rw [List.length_map]; omega
    have i0 := Int.emod_nonneg (c + 1) (Int.ne_of_gt lpos)
    have i1 := Int.emod_lt_of_pos (c + 1) lpos
    obtain ⟨v, hv, hvm⟩ := zj6 (ls := ls) i0 (by rw [List.length_map] at i1 ⊢; exact i1)
    obtain ⟨v0, v1⟩ := z4 v hvm
    refine ⟨_, rfl, b, _, 1, _, rfl, rfl, SqL.of f1, rfl, _, rfl, b, _, 2, _, rfl, rfl, SqL.of f1, rfl, _, rfl, b, _, 1, _, rfl, rfl, SqL.of f1, rfl, l, _, rfl, .inl (SqL.of f3), _, _, rfl, rfl, lpos, l, _, _, _, rfl, rfl, SqL.of f3, hv, ?_⟩
    have c1 : 0 ≤ c + 1 := by omega
    have c2 : c + 1 ≤ 2 ^ 41 := by omega
    refine ⟨_, rfl, b, _, 3, _, rfl, rfl, SqL.of f1, rfl, _, rfl, _, rfl, b, _, 2, _, rfl, rfl, SqL.of f1, rfl, _, _, rfl, rfl, .inl ⟨by decide, by decide⟩, _, _, rfl, rfl, _, rfl, b, _, 2, _, rfl, rfl, SqL.of f1, rfl, _, _, rfl, rfl, .inl ⟨by decide, by decide⟩, _, _, rfl, rfl, _, _, rfl, rfl, .inr ⟨by omega, by omega⟩, _, _, rfl, rfl, ?_⟩
    have big : (st + (v + 3 * (c + 1)) * (2 * (c + 1) + 1)).natAbs < 2 ^ 1000 := by
     have a1 : 0 ≤ v + 3 * (c + 1) := by omega
     have a2 : v + 3 * (c + 1) ≤ 2 ^ 61 := by omega
     have a3 : 0 ≤ 2 * (c + 1) + 1 := by omega
     have a4 : 2 * (c + 1) + 1 ≤ 2 ^ 43 := by omega
     have a5 : (v + 3 * (c + 1)) * (2 * (c + 1) + 1) ≤ 2 ^ 61 * 2 ^ 43 := Int.mul_le_mul a2 a4 a3 (by decide)
     have a6 : 0 ≤ (v + 3 * (c + 1)) * (2 * (c + 1) + 1) := Int.mul_nonneg a1 a3
     generalize (v + 3 * (c + 1)) * (2 * (c + 1) + 1) = y at *
     have a7 : st + y < 2 ^ 105 := by unfold bigM at z8; omega
     have a8 : (st + y).natAbs < 2 ^ 105 := by omega
     exact Nat.lt_of_lt_of_le a8 (by decide)
    refine ⟨_, _, rfl, rfl, ⟨by decide, by decide, big⟩, _, _, rfl, rfl, (by show (0 : Int) < 618970019642690137449562111; decide), ?_⟩
    dsimp only
    generalize (st + (v + 3 * (c + 1)) * (2 * (c + 1) + 1)) ^ (7 : Int).toNat = y
    refine ⟨_, rfl, b, _, 3, 3, rfl, rfl, f1, rfl, ?_⟩
    dsimp only
    have y0 := Int.emod_nonneg y (show (618970019642690137449562111 : Int) ≠ 0 by decide)
    have y1 := Int.emod_lt_of_pos y (show (0 : Int) < 618970019642690137449562111 by decide)
    generalize y % 618970019642690137449562111 = u at *
    have k1 : (upd H3 b (.lst ([V.ref g, V.ref l, V.int (c + 1), V.int st].set 3 (V.int u)))) b = some (.lst [V.ref g, V.ref l, V.int (c + 1), V.int u]) := zad
    refine ⟨_, rfl, b, _, 3, _, rfl, rfl, SqL.of k1, rfl, _, _, rfl, rfl, ⟨by decide, by decide⟩, _, rfl, _, _, rfl, rfl, hm, ?_⟩
    refine q _ _ (Int.emod_nonneg _ (by omega)) (Int.emod_lt_of_pos _ hm) ⟨⟨[], ls, c + 1, u, k1, ?_, ?_, z1, z2, z3, z4, c1, by omega, y0, y1⟩, B1.gl⟩ ?_
    · rw [zal (Ne.symm B1.bg)]; exact f2
    · rw [zal (Ne.symm B1.bl)]; exact f3
    · intro a o h1 h2 h3
      rw [zal h2]
      exact S3 a o h1 h2 h3
theorem zd6 (F : Fun K "_law_number" "_law_number" zbn f fd) (G_law_draw : Γ14 P w K mg base) : FnOk P w K mg base CX0 2 f fd ["bag"] (zdR) := by
 refine F.ok sc_law_number (fun vs H Q E h => ?_) (fun cdv A outer s H vs Q E hr h => ?_)
 · obtain ⟨b, g, l, n, rfl, Bg, hn, q⟩ := h
   rfl
 obtain ⟨b, g, l, n, rfl, Bg, hn, q⟩ := h
 refine ⟨_, (zae (zaI (i := 1) sc_law_number.nd rfl (Or.inl rfl) (zau G_law_draw (hr.mono (by decide)) rfl (zaa (pv 0) (zaa zac zab))))
  (zae (zaK (zan zbT (pv 1) zac (zaq _)) (zaf (zak (zaC zbZ (zau G_law_draw (hr.mono (by decide)) rfl (zaa (pv 0) (zaa zac zab))) zac))) zar)
  (zae (zaK (zan zbT (pv 1) zac (zaq _)) (zaf (zak (zaC zbZ (zau G_law_draw (hr.mono (by decide)) rfl (zaa (pv 0) (zaa zac zab))) zac))) zar)
  (zae (zaK (zan zbT (pv 1) zac (zaq _)) (zaf (zak (zaC zeD (zaF zaw (zbr (zaa zac (zaa (zja zgI zac) zab))) (zau G_law_draw (hr.mono (by decide)) rfl (zaa (pv 0) (zaa zac zab))) (fun _ _ => rfl)) (zaC zbZ (zaC zbZ (zaC zbu zac zac) zac) (zau G_law_draw (hr.mono (by decide)) rfl (zaa (pv 0) (zaa zac zab))))))) zar)
  (zae (zaI (i := 2) sc_law_number.nd rfl (Or.inl rfl) (zau G_law_draw (hr.mono (by decide)) rfl (zaa (pv 0) (zaa (zaC zbu zac zac) zab))))
  (zaf (zak (zcy (zan zbT (pv 1) zac (zaq _)) (pv 2) (zaC zbZ zac (pv 2)))))))))), ?_⟩
 refine ⟨_, rfl, b, g, l, n, 5, rfl, Bg, by omega, by decide, by decide, fun c H1 c0 c1 B1 S1 => ?_⟩
 refine ⟨_, rfl, rfl, _, rfl, ite2 (fun _ => ?_) (fun _ => ?_)⟩
 · exact ⟨_, rfl, b, g, l, _, 9, rfl, B1, by omega, by decide, by decide, fun r H2 r0 r1 B2 S2 => ⟨_, _, rfl, rfl, q _ _ (by show -1000000000000000 < r - 4; omega) (by show r - 4 < 1000000000000000; omega) (B2.mono (by omega)) (S1.trans S2)⟩⟩
 refine ⟨_, rfl, rfl, _, rfl, ite2 (fun _ => ?_) (fun _ => ?_)⟩
 · exact ⟨_, rfl, b, g, l, _, 2000, rfl, B1, by omega, by decide, by decide, fun r H2 r0 r1 B2 S2 => ⟨_, _, rfl, rfl, q _ _ (by show -1000000000000000 < r - 1000; omega) (by show r - 1000 < 1000000000000000; omega) (B2.mono (by omega)) (S1.trans S2)⟩⟩
 refine ⟨_, rfl, rfl, _, rfl, ite2 (fun _ => ?_) (fun _ => ?_)⟩
 · refine ⟨_, rfl, zq2, fun p hp => ?_⟩
   have s1 := zag hp (.lst [V.int 1, V.int (-1)])
   obtain ⟨pb, pg, _⟩ := B1.free hp
   refine ⟨_, rfl, b, g, l, _, 2, rfl, B1.same s1, by omega, by decide, by decide, fun r H2 r0 r1 B2 S2 => ?_⟩
   have hr' : r = 0 ∨ r = 1 := by omega
   obtain ⟨v, hv, v0, v1⟩ : ∃ v, atI [V.int 1, V.int (-1)] r = some (.int v) ∧ -1 ≤ v ∧ v ≤ 1 ∧ (v = 1 ∨ v = -1) := by
    rcases hr' with rfl | rfl
    · exact ⟨1, rfl, by decide, by decide, .inl rfl⟩
    · exact ⟨-1, rfl, by decide, by decide, .inr rfl⟩
   refine ⟨p, _, _, _, rfl, rfl, SqL.of (S2 p _ zad pb pg), hv, _, _, rfl, rfl, pw10 (by decide) (by decide), _, _, rfl, rfl, _, rfl, b, g, l, _, 3, rfl, B2, by omega, by decide, by decide, fun r3 H3 r30 r31 B3 S3 => ?_⟩
   refine ⟨_, _, rfl, rfl, _, _, rfl, rfl, .inl ⟨by omega, by omega⟩, q _ _ ?_ ?_ (B3.mono (by omega)) ((S1.trans (s1.sameB.trans S2)).trans S3)⟩
   all_goals
    rw [e15]
    rcases v1.2 with rfl | rfl
    all_goals (unfold T15; omega)
 refine ⟨_, rfl, _, _, rfl, rfl, pw10 (by decide) (by decide), b, g, l, _, _, rfl, B1, by omega, by decide, by decide, fun r H2 r0 r1 B2 S2 => ?_⟩
 have r1 : r < T15 := by rw [← e15]; exact r1
 refine ⟨_, rfl, rfl, _, rfl, ite2 (fun _ => ⟨_, rfl, q _ _ (by unfold T15; omega) r1 (B2.mono (by omega)) (S1.trans S2)⟩) (fun _ => ⟨_, rfl, _, _, rfl, rfl, q _ _ (by unfold T15 at *; omega) (by unfold T15 at *; omega) (B2.mono (by omega)) (S1.trans S2)⟩)⟩
theorem zfu (F : Fun K "_law_held" "_law_held" zcb f fd)  : FnOk P w K mg base CX0 1 f fd ["number"] (zgR) := by
 refine F.ok zfg (fun vs H Q E h => ?_) (fun cdv A outer s H vs Q E hr h => ?_)
 · obtain ⟨i, rfl, q⟩ := h
   rfl
 obtain ⟨i, rfl, q⟩ := h
 refine ⟨_, (zaf (zak (zai (zdu rfl) rfl B.max_ zhW (zaa (zaC zbZ zac (zaC zbu zac zac)) (zaa (zai (zeQ rfl) rfl B.min_ ziT (zaa (zaC zbZ (zaC zbu zac zac) zac) (zaa (pv 0) zab))) zab))))), ?_⟩
 exact ⟨_, _, rfl, rfl, pw10 (by decide) (by decide), _, _, rfl, rfl, _, _, rfl, rfl, pw10 (by decide) (by decide), _, _, rfl, rfl, _, rfl, _, _, rfl, _, _, rfl, q⟩
theorem zfq (F : Fun K "_law_span" "_law_span" zb8 f fd) (G_law_draw : Γ14 P w K mg base) (G_law_number : Γ15 P w K mg base) (G_law_held : Γ16 P w K mg base) : FnOk P w K mg base CX0 3 f fd ["bag"] (zgO) := by
 refine F.ok sc_law_span (fun vs H Q E h => ?_) (fun cdv A outer s H vs Q E hr h => ?_)
 · obtain ⟨b, g, l, n, rfl, Bg, hn, q⟩ := h
   rfl
 obtain ⟨b, g, l, n, rfl, Bg, hn, q⟩ := h
 refine ⟨_, (zae (zaI (i := 1) sc_law_span.nd rfl (Or.inl rfl) (zau G_law_draw (hr.mono (by decide)) rfl (zaa (pv 0) (zaa zac zab))))
  (zae (zaI (i := 2) sc_law_span.nd rfl (Or.inl rfl) (zau G_law_number (hr.mono (by decide)) rfl (zaa (pv 0) zab)))
  (zae (zaK (zan zbT (pv 1) zac (zaq _)) (zaf (zak (zaQ (zaa zez (zaa zez zab))))) zar)
  (zae (zaK (zan zbT (pv 1) zac (zaq _)) (zaf (zak (zaQ (zaa zez (zaa (pv 2) zab))))) zar)
  (zae (zaK (zan zbT (pv 1) zac (zaq _)) (zaf (zak (zaQ (zaa (pv 2) (zaa zez zab))))) zar)
  (zae (zaK (zan zbT (pv 1) zac (zaq _)) (zaf (zak (zaQ (zaa (pv 2) (zaa (pv 2) zab))))) zar)
  (zae (zaK (zan zfn (pv 1) zac (zaq _)) (zaf (zak (zaQ (zaa (pv 2) (zaa (zau G_law_held (hr.mono (by decide)) rfl (zaa (zaC zbs (zaC zbs (pv 2) zac) (zau G_law_draw (hr.mono (by decide)) rfl (zaa (pv 0) (zaa zac zab)))) zab)) zab))))) zar)
  (zae (zaI (i := 3) sc_law_span.nd rfl (Or.inl rfl) (zau G_law_number (hr.mono (by decide)) rfl (zaa (pv 0) zab)))
  (zaf (zak (zaQ (zaa (zai (zeQ rfl) rfl B.min_ ziT (zaa (pv 2) (zaa (pv 3) zab))) (zaa (zai (zdu rfl) rfl B.max_ zhW (zaa (pv 2) (zaa (pv 3) zab))) zab))))))))))))), ?_⟩
 have fin : ∀ (lo hi : Option Int) (H2 : Hp), Bag H2 b g l (n + 8) → SameB b g H H2 → Good lo hi → ∀ t, H2 t = none → Q (.ref t) (upd H2 t (.tup [eV lo, eV hi])) := fun lo hi H2 B2 S2 G2 t ht =>
  q _ lo hi _ ⟨t, rfl, zad⟩ G2 (B2.same (zag ht _)) (S2.trans (zag ht _).sameB)
 have none_in : inT none := fun i z => by cases z
 refine ⟨_, rfl, b, g, l, n, 7, rfl, Bg, by omega, by decide, by decide, fun c H1 c0 c1 B1 S1 => ?_⟩
 refine ⟨_, rfl, b, g, l, _, rfl, B1, by omega, fun x H2 x0 x1 B2 S2 => ?_⟩
 have S3 := S1.trans S2
 have B3 : Bag H2 b g l (n + 8) := B2.mono (by omega)
 have x_in : inT (some x) := fun i z => by injection z with z; subst z; exact ⟨x0, x1⟩
 refine ⟨_, rfl, rfl, _, rfl, ite2 (fun _ => ⟨zq2, fin none none _ B3 S3 ⟨rfl, none_in, none_in⟩⟩) (fun _ => ?_)⟩
 refine ⟨_, rfl, rfl, _, rfl, ite2 (fun _ => ⟨_, rfl, zq2, fin none (some x) _ B3 S3 ⟨rfl, none_in, x_in⟩⟩) (fun _ => ?_)⟩
 refine ⟨_, rfl, rfl, _, rfl, ite2 (fun _ => ⟨_, rfl, zq2, fin (some x) none _ B3 S3 ⟨rfl, x_in, none_in⟩⟩) (fun _ => ?_)⟩
 refine ⟨_, rfl, rfl, _, rfl, ite2 (fun _ => ⟨_, rfl, _, rfl, zq2, fin (some x) (some x) _ B3 S3 ⟨decide_eq_true (Int.le_refl x), x_in, x_in⟩⟩) (fun _ => ?_)⟩
 refine ⟨_, rfl, _, _, rfl, rfl, _, rfl, ite2 (fun _ => ?_) (fun _ => ?_)⟩
 · refine ⟨_, rfl, _, rfl, _, _, rfl, rfl, _, rfl, b, g, l, _, 12, rfl, B2, by omega, by decide, by decide, fun r H4 r0 r1 B4 S4 => ?_⟩
   refine ⟨_, _, rfl, rfl, _, rfl, zq2, ?_⟩
   have hh := zf6 (x + 1 + r)
   refine fin (some x) (some (zfH (x + 1 + r))) _ (B4.mono (by omega)) (S3.trans S4) ⟨decide_eq_true ?_, x_in, fun i z => ?_⟩
   · unfold T15 at *; omega
   · injection z with z; subst z; unfold T15 at *; omega
 · refine ⟨_, rfl, b, g, l, _, rfl, B2, by omega, fun y H4 y0 y1 B4 S4 => ?_⟩
   refine ⟨_, rfl, _, rfl, _, _, rfl, _, rfl, _, rfl, _, _, rfl, zq2, ?_⟩
   refine fin (some (if y < x then y else x)) (some (if y > x then y else x)) _ (B4.mono (by omega)) (S3.trans S4) ⟨decide_eq_true ?_, fun i z => ?_, fun i z => ?_⟩
   · split <;> split <;> omega
   · injection z with z; subst z; split <;> omega
   · injection z with z; subst z; split <;> omega
theorem zeF (F : Fun K "_law_whole" "_law_whole" zbF f fd)  : FnOk P w K mg base CX0 1 f fd ["found"] (zcJ K) := by
 refine F.ok zet (fun vs H Q E h => ?_) (fun cdv A outer s H vs Q E hr h => ?_)
 · obtain ⟨v, t, rfl, hty, q⟩ := h
   rfl
 obtain ⟨v, t, rfl, hty, q⟩ := h
 refine ⟨_, (zaf (zak (zcz (zai (zam (n := "")) rfl B.isinstance_ zaj (zaa (pv 0) (zaa (zaD (v := .ty "int") rfl B.int_ zgf rfl) zab))) (zbq (ziK (zai (zam (n := "")) rfl B.isinstance_ zaj (zaa (pv 0) (zaa (zaD (v := .ty "bool") rfl B.bool_ zek rfl) zab)))))))), ?_⟩
 cases hty
 all_goals first
  | exact ⟨_, rfl, _, "int", "int", true, rfl, .int _, rfl, _, rfl, iteT ⟨_, rfl, _, "int", "bool", false, rfl, .int _, rfl, _, rfl, q⟩⟩
  | exact ⟨_, rfl, _, "bool", "int", true, rfl, .bl _, rfl, _, rfl, iteT ⟨_, rfl, _, "bool", "bool", true, rfl, .bl _, rfl, _, rfl, q⟩⟩
  | exact ⟨_, rfl, _, _, "int", false, rfl, (by first | exact .non | exact .str _ | exact .flt _ | (exact .lst (by assumption)) | (exact .frz (by assumption)) | (exact .tup (by assumption)) | (exact .dK (by assumption)) | (exact .dT (by assumption))), rfl, _, rfl, iteF q⟩
theorem zfr (F : Fun K "_law_same" "_law_same" zbx f fd)  (M_self : mg "_law_same" = some (.ref f)) : FnOk P w K mg base CX0 11 f fd ["found", "due"] (zfS 9 zdP) := by
 have b_self := F.binds (ps := ["found", "due"]) fun _ _ _ _ _ _ us hl => match us, hl with | [_, _], _ => rfl
 refine ziY (L := 0) (D := 9) (ziH F zdb b_self M_self 0 (zdP) fun n sp0 hsp G_law_same => ?_)
 refine F.ok zdb (fun vs H Q E h => ?_) (fun cdv A outer s H vs Q E hr h => ?_)
 · obtain ⟨v, v', d, rfl, n9, h1, h2, hn, q⟩ := h
   rfl
 obtain ⟨v, v', d, rfl, n9, h1, h2, hn, q⟩ := h
 refine ⟨_, (zae (zaK (zcW (zbC (pv 1))) (zaf (zak (zck (zbC (pv 0))))) zar)
  (zae (zaK (zaN (zai zcZ rfl B.isinstance_ zaj (zaa (pv 1) (zaa (zaQ (zaa (zaD (v := .ty "list") rfl B.list_ zcs rfl) (zaa (zaD (v := .ty "tuple") rfl B.tuple_ zbt rfl) zab))) zab)))) (zae (zaK (PW.pt (zbX (zaR (zaN (zai zcZ rfl B.isinstance_ zaj (zaa (pv 0) (zaa (zaQ (zaa (zaD (v := .ty "list") rfl B.list_ zcs rfl) (zaa (zaD (v := .ty "tuple") rfl B.tuple_ zbt rfl) zab))) zab))))) (zbp (zan zdk (zai (zam (n := "")) rfl B.isinstance_ zaj (zaa (pv 0) (zaa (zaD (v := .ty "list") rfl B.list_ zcs rfl) zab))) (zai (zam (n := "")) rfl B.isinstance_ zaj (zaa (pv 1) (zaa (zaD (v := .ty "list") rfl B.list_ zcs rfl) zab))) (zaq _))))) (zaf (zak zbB)) zar)
  (zaf (zak (zcz (za2 zbT (zai zat rfl B.len_ zaY (zaa (pv 0) zab)) (zai zat rfl B.len_ zaY (zaa (pv 1) zab)) (zaq _)) (zbq (zai (zcE rfl) rfl B.all_ zeT (zaa (zdy (N' := ["k", "found", "due"]) (js := [none, some 0, some 1]) rfl (zc3 (N := ["found", "due"]) (outer := zah zbx) (by decide +kernel)) (zbl rfl B.range_ (zaa (zai zat rfl B.len_ zaY (zaa (pv 1) zab)) zab)) (fun _ _ _ _ _ => (zas (i := 0) (show List.Nodup (["k", "found", "due"] : List Str) by decide +kernel) rfl (Or.inl rfl))) (fun _ _ _ _ _ => zbf) (fun _ _ _ _ _ => (zau G_law_same (hr.mono (by omega)) rfl (zaa (zaF (zhA K rfl) (pv 1) (pv 0) (fun _ _ => rfl)) (zaa (zaF (zhA K rfl) (pv 2) (pv 0) (fun _ _ => rfl)) zab))))) zab))))))) zar)
  (zae (zaK (PW.pt (zbX (zan zdk (zai (zam (n := "")) rfl B.isinstance_ zaj (zaa (pv 0) (zaa (zaD (v := .ty "bool") rfl B.bool_ zek rfl) zab))) (zai (zam (n := "")) rfl B.isinstance_ zaj (zaa (pv 1) (zaa (zaD (v := .ty "bool") rfl B.bool_ zek rfl) zab))) (zaq _)) (zbp (zan zdk (zai (zam (n := "")) rfl B.isinstance_ zaj (zaa (pv 0) (zaa (zaD (v := .ty "int") rfl B.int_ zgf rfl) zab))) (zai (zam (n := "")) rfl B.isinstance_ zaj (zaa (pv 1) (zaa (zaD (v := .ty "int") rfl B.int_ zgf rfl) zab))) (zaq _))))) (zaf (zak zbB)) zar)
  (zaf (zak (zcz (za2 zbT (zai (zam (n := "")) rfl B.isinstance_ zaj (zaa (pv 0) (zaa (zaD (v := .ty "str") rfl B.str_ zge rfl) zab))) (zai (zam (n := "")) rfl B.isinstance_ zaj (zaa (pv 1) (zaa (zaD (v := .ty "str") rfl B.str_ zge rfl) zab))) (zaq _)) (zbq (za2 (zjM (zbJ hr)) (pv 0) (pv 1) (zaq _))))))))), ?_⟩
 cases d with
 | non =>
  rw [RepY] at h1 h2
  subst h1 h2
  exact ⟨_, rfl, _, rfl, iteT ⟨_, rfl, q H (Same.refl _)⟩⟩
 | bl x =>
  have r1 := h1
  have r2 := h2
  rw [RepY] at h1 h2
  subst h1 h2
  refine ⟨_, rfl, _, rfl, iteF ⟨_, rfl, zq2, fun t1 ht1 => ?_⟩⟩
  have s1 := zag ht1 (.tup [V.ty "list", V.ty "tuple"])
  have c1 : (upd H t1 (.tup [V.ty "list", V.ty "tuple"])) t1 = some (.tup [V.ty "list", V.ty "tuple"]) := zad
  generalize upd H t1 (.tup [V.ty "list", V.ty "tuple"]) = H1 at *
  refine ⟨_, "bool", t1, _, false, rfl, .bl x, c1, rfl, rfl, _, rfl, iteF ?_⟩
  refine ⟨_, rfl, _, "bool", "bool", true, rfl, .bl x, rfl, _, rfl, _, "bool", "bool", true, rfl, .bl x, rfl, rfl, _, rfl, iteF ?_⟩
  refine ⟨_, rfl, _, "bool", "int", true, rfl, .bl x, rfl, _, rfl, _, "bool", "int", true, rfl, .bl x, rfl, rfl, _, rfl, iteF ?_⟩
  refine ⟨_, rfl, _, "bool", "str", false, rfl, .bl x, rfl, _, rfl, _, "bool", "str", false, rfl, .bl x, rfl, rfl, _, rfl, iteT ?_⟩
  exact ⟨_, rfl, _, rfl, _, RepY.same s1 _ r1, RepY.same s1 _ r2, by omega, q H1 s1⟩
 | int x =>
  have r1 := h1
  have r2 := h2
  rw [RepY] at h1 h2
  subst h1 h2
  refine ⟨_, rfl, _, rfl, iteF ⟨_, rfl, zq2, fun t1 ht1 => ?_⟩⟩
  have s1 := zag ht1 (.tup [V.ty "list", V.ty "tuple"])
  have c1 : (upd H t1 (.tup [V.ty "list", V.ty "tuple"])) t1 = some (.tup [V.ty "list", V.ty "tuple"]) := zad
  generalize upd H t1 (.tup [V.ty "list", V.ty "tuple"]) = H1 at *
  refine ⟨_, "int", t1, _, false, rfl, .int x, c1, rfl, rfl, _, rfl, iteF ?_⟩
  refine ⟨_, rfl, _, "int", "bool", false, rfl, .int x, rfl, _, rfl, _, "int", "bool", false, rfl, .int x, rfl, rfl, _, rfl, iteF ?_⟩
  refine ⟨_, rfl, _, "int", "int", true, rfl, .int x, rfl, _, rfl, _, "int", "int", true, rfl, .int x, rfl, rfl, _, rfl, iteF ?_⟩
  refine ⟨_, rfl, _, "int", "str", false, rfl, .int x, rfl, _, rfl, _, "int", "str", false, rfl, .int x, rfl, rfl, _, rfl, iteT ?_⟩
  exact ⟨_, rfl, _, rfl, _, RepY.same s1 _ r1, RepY.same s1 _ r2, by omega, q H1 s1⟩
 | str x =>
  have r1 := h1
  have r2 := h2
  rw [RepY] at h1 h2
  obtain ⟨rfl, hx⟩ := h1
  obtain ⟨rfl, _⟩ := h2
  refine ⟨_, rfl, _, rfl, iteF ⟨_, rfl, zq2, fun t1 ht1 => ?_⟩⟩
  have s1 := zag ht1 (.tup [V.ty "list", V.ty "tuple"])
  have c1 : (upd H t1 (.tup [V.ty "list", V.ty "tuple"])) t1 = some (.tup [V.ty "list", V.ty "tuple"]) := zad
  generalize upd H t1 (.tup [V.ty "list", V.ty "tuple"]) = H1 at *
  refine ⟨_, "str", t1, _, false, rfl, .str x, c1, rfl, rfl, _, rfl, iteF ?_⟩
  refine ⟨_, rfl, _, "str", "bool", false, rfl, .str x, rfl, _, rfl, _, "str", "bool", false, rfl, .str x, rfl, rfl, _, rfl, iteF ?_⟩
  refine ⟨_, rfl, _, "str", "int", false, rfl, .str x, rfl, _, rfl, _, "str", "int", false, rfl, .str x, rfl, rfl, _, rfl, iteF ?_⟩
  refine ⟨_, rfl, _, "str", "str", true, rfl, .str x, rfl, _, rfl, _, "str", "str", true, rfl, .str x, rfl, rfl, _, rfl, iteT ?_⟩
  exact ⟨_, rfl, _, rfl, _, RepY.same s1 _ r1, RepY.same s1 _ r2, by omega, q H1 s1⟩
 | dic =>
  have r1 := h1
  have r2 := h2
  rw [RepY] at h1 h2
  obtain ⟨a, rfl, ha⟩ := h1
  obtain ⟨a', rfl, ha'⟩ := h2
  refine ⟨_, rfl, _, rfl, iteF ⟨_, rfl, zq2, fun t1 ht1 => ?_⟩⟩
  have s1 := zag ht1 (.tup [V.ty "list", V.ty "tuple"])
  have c1 : (upd H t1 (.tup [V.ty "list", V.ty "tuple"])) t1 = some (.tup [V.ty "list", V.ty "tuple"]) := zad
  generalize upd H t1 (.tup [V.ty "list", V.ty "tuple"]) = H1 at *
  refine ⟨_, "dict", t1, _, false, rfl, .dK (s1 _ _ ha'), c1, rfl, rfl, _, rfl, iteF ?_⟩
  refine ⟨_, rfl, _, "dict", "bool", false, rfl, .dK (s1 _ _ ha), rfl, _, rfl, _, "dict", "bool", false, rfl, .dK (s1 _ _ ha'), rfl, rfl, _, rfl, iteF ?_⟩
  refine ⟨_, rfl, _, "dict", "int", false, rfl, .dK (s1 _ _ ha), rfl, _, rfl, _, "dict", "int", false, rfl, .dK (s1 _ _ ha'), rfl, rfl, _, rfl, iteF ?_⟩
  refine ⟨_, rfl, _, "dict", "str", false, rfl, .dK (s1 _ _ ha), rfl, _, rfl, _, "dict", "str", false, rfl, .dK (s1 _ _ ha'), rfl, rfl, _, rfl, iteT ?_⟩
  exact ⟨_, rfl, _, rfl, _, RepY.same s1 _ r1, RepY.same s1 _ r2, by omega, q H1 s1⟩
 | da d =>
  have r1 := h1
  have r2 := h2
  rw [RepY] at h1 h2
  obtain ⟨a, u, rfl, ha, hu⟩ := h1
  obtain ⟨a', u', rfl, ha', hu'⟩ := h2
  refine ⟨_, rfl, _, rfl, iteF ⟨_, rfl, zq2, fun t1 ht1 => ?_⟩⟩
  have s1 := zag ht1 (.tup [V.ty "list", V.ty "tuple"])
  have c1 : (upd H t1 (.tup [V.ty "list", V.ty "tuple"])) t1 = some (.tup [V.ty "list", V.ty "tuple"]) := zad
  generalize upd H t1 (.tup [V.ty "list", V.ty "tuple"]) = H1 at *
  refine ⟨_, "dict", t1, _, false, rfl, .dK (s1 _ _ ha'), c1, rfl, rfl, _, rfl, iteF ?_⟩
  refine ⟨_, rfl, _, "dict", "bool", false, rfl, .dK (s1 _ _ ha), rfl, _, rfl, _, "dict", "bool", false, rfl, .dK (s1 _ _ ha'), rfl, rfl, _, rfl, iteF ?_⟩
  refine ⟨_, rfl, _, "dict", "int", false, rfl, .dK (s1 _ _ ha), rfl, _, rfl, _, "dict", "int", false, rfl, .dK (s1 _ _ ha'), rfl, rfl, _, rfl, iteF ?_⟩
  refine ⟨_, rfl, _, "dict", "str", false, rfl, .dK (s1 _ _ ha), rfl, _, rfl, _, "dict", "str", false, rfl, .dK (s1 _ _ ha'), rfl, rfl, _, rfl, iteT ?_⟩
  exact ⟨_, rfl, _, rfl, _, RepY.same s1 _ r1, RepY.same s1 _ r2, by omega, q H1 s1⟩
 | lst ds =>
  rw [RepY] at h1 h2
  obtain ⟨a, xs, rfl, ha, h9, hx⟩ := h1
  obtain ⟨a', xs', rfl, ha', _, hx'⟩ := h2
  obtain ⟨m, rfl⟩ : ∃ m, n = m + 1 := ⟨n - 1, by rw [zaO] at hn; omega⟩
  have e0 := hsp m rfl
  subst e0
  rw [zaO] at hn
  have hl := hx.length
  have hl' := hx'.length
  refine ⟨_, rfl, _, rfl, iteF ⟨_, rfl, zq2, fun t1 ht1 => ?_⟩⟩
  have s1 := zag ht1 (.tup [V.ty "list", V.ty "tuple"])
  have c1 : (upd H t1 (.tup [V.ty "list", V.ty "tuple"])) t1 = some (.tup [V.ty "list", V.ty "tuple"]) := zad
  generalize upd H t1 (.tup [V.ty "list", V.ty "tuple"]) = H1 at *
  refine ⟨_, "list", t1, _, true, rfl, .lst (s1 _ _ ha'), c1, rfl, rfl, _, rfl, iteT ⟨_, rfl, zq2, fun t2 ht2 => ?_⟩⟩
  have s2 := zag ht2 (.tup [V.ty "list", V.ty "tuple"])
  have c2 : (upd H1 t2 (.tup [V.ty "list", V.ty "tuple"])) t2 = some (.tup [V.ty "list", V.ty "tuple"]) := zad
  generalize upd H1 t2 (.tup [V.ty "list", V.ty "tuple"]) = H2 at *
  have S := s1.trans s2
  have ka := S _ _ ha
  have ka' := S _ _ ha'
  refine ⟨_, "list", t2, _, true, rfl, .lst ka, c2, rfl, rfl, _, rfl, iteF ⟨_, rfl, _, "list", "list", true, rfl, .lst ka, rfl, _, rfl, _, "list", "list", true, rfl, .lst ka', rfl, rfl, _, rfl, iteF ?_⟩⟩
  refine ⟨_, rfl, a, _, rfl, .inl (SqL.of ka), _, rfl, a', _, rfl, .inl (SqL.of ka'), rfl, _, rfl, ?_⟩
  rw [decide_eq_true (show V.int ((xs.length : Nat) : Int) = V.int ((xs'.length : Nat) : Int) by rw [hl, hl'])]
  refine iteT ⟨_, rfl, a', _, rfl, .inl (SqL.of ka'), _, rfl, by omega, by omega, fun p hp => ?_⟩
  have s3 := zag hp (.lst [])
  refine zcC (n := ((xs'.length : Nat) : Int).toNat) (fun i σ' ys H' => (∃ v, σ' = [v, some (.ref a), some (.ref a')]) ∧ Same H2 H' ∧ H' p = some (.lst ys) ∧ ys = (List.replicate i true).map V.bl) ⟨⟨none, rfl⟩, s3, zad, rfl⟩ ?_ ?_ ?_
  · rintro i σ' ys H' hi ⟨_, _, h1, h2⟩
    exact ⟨h1, by rw [h2, List.length_map, List.length_replicate]; exact zaA (by omega)⟩
  · rintro i σ' ys H4 N hi ⟨⟨v, rfl⟩, s4, h1, h2⟩ hN
    have hi2 : i < xs'.length := by omega
    obtain ⟨x, ex⟩ : ∃ x, xs[i]? = some x := ⟨xs[i]'(by omega), by simp [hl, hl', hi2]⟩
    obtain ⟨x', ex'⟩ : ∃ x, xs'[i]? = some x := ⟨xs'[i], by simp [hi2]⟩
    obtain ⟨d, ed, rd⟩ := hx.get ex
    obtain ⟨d', ed', rd'⟩ := hx'.get ex'
    rw [ed] at ed'
    injection ed' with ed'
    subst ed'
    have e0 : (0 : Int) + (i : Int) = (i : Int) := by omega
    have at1 : atI xs (0 + (i : Int)) = some x := by rw [e0]; exact za4 ex
    have at2 : atI xs' (0 + (i : Int)) = some x' := by rw [e0]; exact za4 ex'
    have S4 := S.trans s4
    refine ⟨_, rfl, _, rfl, a, xs, _, x, rfl, rfl, .inl (SqL.of (S4 _ _ ha)), at1, _, rfl, _, rfl, a', xs', _, x', rfl, rfl, .inl (SqL.of (S4 _ _ ha')), at2, x, x', d, rfl, by omega, RepY.same S4 d rd, RepY.same S4 d rd', by have := zcS (List.mem_of_getElem? ed); omega, fun H5 s5 => ⟨s5 _ _ h1, hN _ _ _ ⟨⟨_, rfl⟩, ?_, zad, ?_⟩⟩⟩
    · intro b o q
      have : b ≠ p := fun z => by rw [z, hp] at q; cases q
      rw [zal this]
      exact s5 _ _ (s4 b o q)
    · rw [h2, List.replicate_succ', List.map_append]; rfl
  · rintro σ' ys H4 ⟨_, s4, h1, h2⟩
    refine ⟨p, _, rfl, SqL.of (by rw [h1, h2]), ?_⟩
    have e : (List.replicate ((xs'.length : Nat) : Int).toNat true).all id = true := by simp
    rw [e]
    exact q H4 (S.trans s4)
 | tup ds =>
  rw [RepY] at h1 h2
  obtain ⟨a, xs, rfl, ha, h9, hx⟩ := h1
  obtain ⟨a', xs', rfl, ha', _, hx'⟩ := h2
  obtain ⟨m, rfl⟩ : ∃ m, n = m + 1 := ⟨n - 1, by rw [zaO] at hn; omega⟩
  have e0 := hsp m rfl
  subst e0
  rw [zaO] at hn
  have hl := hx.length
  have hl' := hx'.length
  refine ⟨_, rfl, _, rfl, iteF ⟨_, rfl, zq2, fun t1 ht1 => ?_⟩⟩
  have s1 := zag ht1 (.tup [V.ty "list", V.ty "tuple"])
  have c1 : (upd H t1 (.tup [V.ty "list", V.ty "tuple"])) t1 = some (.tup [V.ty "list", V.ty "tuple"]) := zad
  generalize upd H t1 (.tup [V.ty "list", V.ty "tuple"]) = H1 at *
  refine ⟨_, "tuple", t1, _, true, rfl, .tup (s1 _ _ ha'), c1, rfl, rfl, _, rfl, iteT ⟨_, rfl, zq2, fun t2 ht2 => ?_⟩⟩
  have s2 := zag ht2 (.tup [V.ty "list", V.ty "tuple"])
  have c2 : (upd H1 t2 (.tup [V.ty "list", V.ty "tuple"])) t2 = some (.tup [V.ty "list", V.ty "tuple"]) := zad
  generalize upd H1 t2 (.tup [V.ty "list", V.ty "tuple"]) = H2 at *
  have S := s1.trans s2
  have ka := S _ _ ha
  have ka' := S _ _ ha'
  refine ⟨_, "tuple", t2, _, true, rfl, .tup ka, c2, rfl, rfl, _, rfl, iteF ⟨_, rfl, _, "tuple", "list", false, rfl, .tup ka, rfl, _, rfl, _, "tuple", "list", false, rfl, .tup ka', rfl, rfl, _, rfl, iteF ?_⟩⟩
  refine ⟨_, rfl, a, _, rfl, .inr (SqT.of ka), _, rfl, a', _, rfl, .inr (SqT.of ka'), rfl, _, rfl, ?_⟩
  rw [decide_eq_true (show V.int ((xs.length : Nat) : Int) = V.int ((xs'.length : Nat) : Int) by rw [hl, hl'])]
  refine iteT ⟨_, rfl, a', _, rfl, .inr (SqT.of ka'), _, rfl, by omega, by omega, fun p hp => ?_⟩
  have s3 := zag hp (.lst [])
  refine zcC (n := ((xs'.length : Nat) : Int).toNat) (fun i σ' ys H' => (∃ v, σ' = [v, some (.ref a), some (.ref a')]) ∧ Same H2 H' ∧ H' p = some (.lst ys) ∧ ys = (List.replicate i true).map V.bl) ⟨⟨none, rfl⟩, s3, zad, rfl⟩ ?_ ?_ ?_
  · rintro i σ' ys H' hi ⟨_, _, h1, h2⟩
    exact ⟨h1, by rw [h2, List.length_map, List.length_replicate]; exact zaA (by omega)⟩
  · rintro i σ' ys H4 N hi ⟨⟨v, rfl⟩, s4, h1, h2⟩ hN
    have hi2 : i < xs'.length := by omega
    obtain ⟨x, ex⟩ : ∃ x, xs[i]? = some x := ⟨xs[i]'(by omega), by simp [hl, hl', hi2]⟩
    obtain ⟨x', ex'⟩ : ∃ x, xs'[i]? = some x := ⟨xs'[i], by simp [hi2]⟩
    obtain ⟨d, ed, rd⟩ := hx.get ex
    obtain ⟨d', ed', rd'⟩ := hx'.get ex'
    rw [ed] at ed'
    injection ed' with ed'
    subst ed'
    have e0 : (0 : Int) + (i : Int) = (i : Int) := by omega
    have at1 : atI xs (0 + (i : Int)) = some x := by rw [e0]; exact za4 ex
    have at2 : atI xs' (0 + (i : Int)) = some x' := by rw [e0]; exact za4 ex'
    have S4 := S.trans s4
    refine ⟨_, rfl, _, rfl, a, xs, _, x, rfl, rfl, .inr (SqT.of (S4 _ _ ha)), at1, _, rfl, _, rfl, a', xs', _, x', rfl, rfl, .inr (SqT.of (S4 _ _ ha')), at2, x, x', d, rfl, by omega, RepY.same S4 d rd, RepY.same S4 d rd', by have := zcS (List.mem_of_getElem? ed); omega, fun H5 s5 => ⟨s5 _ _ h1, hN _ _ _ ⟨⟨_, rfl⟩, ?_, zad, ?_⟩⟩⟩
    · intro b o q
      have : b ≠ p := fun z => by rw [z, hp] at q; cases q
      rw [zal this]
      exact s5 _ _ (s4 b o q)
    · rw [h2, List.replicate_succ', List.map_append]; rfl
  · rintro σ' ys H4 ⟨_, s4, h1, h2⟩
    refine ⟨p, _, rfl, SqL.of (by rw [h1, h2]), ?_⟩
    have e : (List.replicate ((xs'.length : Nat) : Int).toNat true).all id = true := by simp
    rw [e]
    exact q H4 (S.trans s4)
theorem zeI (F : Fun K "_law_field" "_law_field" za1 f fd) (G_law_draw : Γ14 P w K mg base) : FnOk P w K mg base CX0 2 f fd ["bag"] (zcK) := by
 refine F.ok sc_law_field (fun vs H Q E h => ?_) (fun cdv A outer s H vs Q E hr h => ?_)
 · obtain ⟨b, g, l, n, rfl, Bg, hn, q⟩ := h
   rfl
 obtain ⟨b, g, l, n, rfl, Bg, hn, q⟩ := h
 refine ⟨_, (zae (zaI (i := 1) sc_law_field.nd rfl (Or.inl rfl) (zau G_law_draw (hr.mono (by decide)) rfl (zaa (pv 0) (zaa zac zab))))
  (zae (zaI (i := 2) sc_law_field.nd rfl (Or.inr rfl) zdF)
  (zae (zaK (zan zbT (pv 1) zac (zaq _)) (zaf (zak (zdi PySem.F.plainAttrs_str PySem.F.slot_str_join PySem.F.type_str_join zhl zdF (zaa (zdy (N' := ["k", "bag", "some"]) (js := [none, some 0, some 2]) rfl (zc3 (N := ["bag", "choice", "some"]) (outer := zah za1) (by decide +kernel)) (zbl rfl B.range_ (zaa (zaC zbs zac (zau G_law_draw (hr.mono (by decide)) rfl (zaa (pv 0) (zaa zac zab)))) zab)) (fun _ _ _ _ _ => (zas (i := 0) (show List.Nodup (["k", "bag", "some"] : List Str) by decide +kernel) rfl (Or.inl rfl))) (fun _ _ _ _ _ => zbf) (fun _ _ _ _ _ => (zaF ziQ (pv 2) (zau G_law_draw (hr.mono (by decide)) rfl (zaa (pv 1) (zaa zac zab))) (fun _ _ => rfl)))) zab)))) zar)
  (zaf (zak (zdi PySem.F.plainAttrs_str PySem.F.slot_str_join PySem.F.type_str_join zhl zdF (zaa (zdy (N' := ["k", "bag", "some"]) (js := [none, some 0, some 2]) rfl (zc3 (N := ["bag", "choice", "some"]) (outer := zah za1) (by decide +kernel)) (zbl rfl B.range_ (zaa (zaC zbs zac (zau G_law_draw (hr.mono (by decide)) rfl (zaa (pv 0) (zaa zac zab)))) zab)) (fun _ _ _ _ _ => (zas (i := 0) (show List.Nodup (["k", "bag", "some"] : List Str) by decide +kernel) rfl (Or.inl rfl))) (fun _ _ _ _ _ => zbf) (fun _ _ _ _ _ => (zaF ziQ (pv 2) (zaC zeD (zau G_law_draw (hr.mono (by decide)) rfl (zaa (pv 1) (zaa zac zab))) zac) (fun _ _ => rfl)))) zab))))))), ?_⟩
 refine ⟨_, rfl, b, g, l, n, 3, rfl, Bg, by omega, by decide, by decide, fun c0 H1 c1 c2 B1 S1 => ?_⟩
 refine ⟨_, rfl, rfl, _, rfl, ite2 (fun _ => ?_) (fun _ => ?_)⟩
 · refine ⟨rfl, _, rfl, b, g, l, _, 8, rfl, B1, by omega, by decide, by decide, fun r H2 r0 r1 B2 S2 => ?_⟩
   refine ⟨_, _, rfl, rfl, _, rfl, by omega, by omega, fun p hp => ?_⟩
   obtain ⟨pb, pg, pl⟩ := B2.free hp
   have s3 := zag hp (.lst [])
   have S12 := S1.trans S2
   refine zcC (n := (1 + r).toNat) (fun i σ' ys H' => (∃ v, σ' = [v, some (.ref b), some (.str "abcdefghijklmnopqrstuvwxyz")]) ∧ SameB b g H H' ∧ Bag H' b g l (n + 2 + i) ∧ H' p = some (.lst ys) ∧ ∃ cs : List Nat, ys = (cs.map fun c => (⟨#[c]⟩ : Str)).map V.str ∧ cs.length = i ∧ ∀ c ∈ cs, zbh c = true) ?_ ?_ ?_ ?_
   · exact ⟨⟨none, rfl⟩, S12.trans s3.sameB, (B2.same s3).mono (by omega), zad, [], rfl, rfl, fun c hc => by simp at hc⟩
   · rintro i σ' ys H' hi ⟨_, _, _, h1, cs, rfl, h2, _⟩
     exact ⟨h1, by rw [List.length_map, List.length_map, h2]; exact zaA (by omega)⟩
   · rintro i σ' ys H4 N hi ⟨⟨v, rfl⟩, S4, B4, h1, cs, rfl, h2, h3⟩ hN
     refine ⟨_, rfl, _, rfl, b, g, l, _, 26, rfl, B4, by omega, by decide, by decide, fun k H5 k0 k1 B5 S5 => ?_⟩
     obtain ⟨c, hc, ok⟩ := zj4 k0 k1
     have h5 := S5 _ _ h1 pb pg
     refine ⟨_, _, c, rfl, rfl, (by show 26 ≤ sizeLine; decide), hc, h5, hN _ _ _ ⟨⟨_, rfl⟩, ?_, ?_, zad, cs ++ [c], ?_, ?_, ?_⟩⟩
     · have np : H p = none := S12.none hp pb pg
       exact (S4.trans S5).off np
     · exact (B5.off pb pg pl).mono (by omega)
     · rw [List.map_append, List.map_append]; rfl
     · rw [List.length_append, h2]; rfl
     · intro c' hc'
       rcases List.mem_append.mp hc' with z | z
       · exact h3 c' z
       · rw [List.mem_singleton.mp z]; exact ok
   · rintro σ' ys H4 ⟨_, S4, B4, h1, cs, rfl, h2, h3⟩
     refine ⟨_, _, _, rfl, rfl, SqL.of h1, zhz cs (by omega), q _ _ (zdJ (by omega) (by omega) h3) (B4.mono (by omega)) S4⟩
 · refine ⟨rfl, _, rfl, b, g, l, _, 4, rfl, B1, by omega, by decide, by decide, fun r H2 r0 r1 B2 S2 => ?_⟩
   refine ⟨_, _, rfl, rfl, _, rfl, by omega, by omega, fun p hp => ?_⟩
   obtain ⟨pb, pg, pl⟩ := B2.free hp
   have s3 := zag hp (.lst [])
   have S12 := S1.trans S2
   refine zcC (n := (1 + r).toNat) (fun i σ' ys H' => (∃ v, σ' = [v, some (.ref b), some (.str "abcdefghijklmnopqrstuvwxyz")]) ∧ SameB b g H H' ∧ Bag H' b g l (n + 2 + i) ∧ H' p = some (.lst ys) ∧ ∃ cs : List Nat, ys = (cs.map fun c => (⟨#[c]⟩ : Str)).map V.str ∧ cs.length = i ∧ ∀ c ∈ cs, zbh c = true) ?_ ?_ ?_ ?_
   · exact ⟨⟨none, rfl⟩, S12.trans s3.sameB, (B2.same s3).mono (by omega), zad, [], rfl, rfl, fun c hc => by simp at hc⟩
   · rintro i σ' ys H' hi ⟨_, _, _, h1, cs, rfl, h2, _⟩
     exact ⟨h1, by rw [List.length_map, List.length_map, h2]; exact zaA (by omega)⟩
   · rintro i σ' ys H4 N hi ⟨⟨v, rfl⟩, S4, B4, h1, cs, rfl, h2, h3⟩ hN
     refine ⟨_, rfl, _, rfl, b, g, l, _, 2, rfl, B4, by omega, by decide, by decide, fun k H5 k0 k1 B5 S5 => ?_⟩
     obtain ⟨c, hc, ok⟩ := zj4 (r := k * 25) (by omega) (by omega)
     refine ⟨_, _, rfl, rfl, .inl ⟨by omega, by omega⟩, ?_⟩
     have h5 := S5 _ _ h1 pb pg
     refine ⟨_, _, c, rfl, rfl, (by show 26 ≤ sizeLine; decide), hc, h5, hN _ _ _ ⟨⟨_, rfl⟩, ?_, ?_, zad, cs ++ [c], ?_, ?_, ?_⟩⟩
     · have np : H p = none := S12.none hp pb pg
       exact (S4.trans S5).off np
     · exact (B5.off pb pg pl).mono (by omega)
     · rw [List.map_append, List.map_append]; rfl
     · rw [List.length_append, h2]; rfl
     · intro c' hc'
       rcases List.mem_append.mp hc' with z | z
       · exact h3 c' z
       · rw [List.mem_singleton.mp z]; exact ok
   · rintro σ' ys H4 ⟨_, S4, B4, h1, cs, rfl, h2, h3⟩
     refine ⟨_, _, _, rfl, rfl, SqL.of h1, zhz cs (by omega), q _ _ (zdJ (by omega) (by omega) h3) (B4.mono (by omega)) S4⟩
theorem zd7 (F : Fun K "_law_fields" "_law_fields" za8 f fd) (G_law_field : Γ20 P w K mg base) (G_law_draw : Γ14 P w K mg base) : FnOk P w K mg base CX0 3 f fd ["bag", "most"] (zcn) := by
 refine F.ok zdY (fun vs H Q E h => ?_) (fun cdv A outer s H vs Q E hr h => ?_)
 · obtain ⟨b, g, l, n, most, rfl, Bg, hn, m0, m9, q⟩ := h
   rfl
 obtain ⟨b, g, l, n, most, rfl, Bg, hn, m0, m9, q⟩ := h
 refine ⟨_, (zaf (zak (zgt rfl (zdy (N' := ["k", "bag"]) (js := [none, some 0]) rfl (zc3 (N := ["bag", "most"]) (outer := zah za8) (by decide +kernel)) (zbl rfl B.range_ (zaa (zau G_law_draw (hr.mono (by decide)) rfl (zaa (pv 0) (zaa (zaC zbs (pv 1) zac) zab))) zab)) (fun _ _ _ _ _ => (zas (i := 0) (show List.Nodup (["k", "bag"] : List Str) by decide +kernel) rfl (Or.inl rfl))) (fun _ _ _ _ _ => zbf) (fun _ _ _ _ _ => (zau G_law_field (hr.mono (by decide)) rfl (zaa (pv 1) zab)))) rfl B.sorted_ rfl B.set_))), ?_⟩
 have big : most + 1 < 2 ^ 500 := by have : (10 : Int) < 2 ^ 500 := by decide
                                     omega
 refine ⟨_, rfl, _, rfl, _, _, rfl, rfl, b, g, l, n, _, rfl, Bg, by omega, by omega, big, fun r H1 r0 r1 B1 S1 => ?_⟩
 refine ⟨_, rfl, by omega, by omega, fun p hp => ?_⟩
 obtain ⟨pb, pg, pl⟩ := B1.free hp
 have np : H p = none := S1.none hp pb pg
 have s3 := zag hp (.lst [])
 refine zcC (n := r.toNat) (fun i σ' ys H' => (∃ v, σ' = [v, some (.ref b)]) ∧ SameB b g H H' ∧ Bag H' b g l (n + 1 + 12 * i) ∧ H' p = some (.lst ys) ∧ ∃ ts : List Str, ys = ts.map V.str ∧ ts.length = i ∧ ∀ t ∈ ts, FieldOk t) ?_ ?_ ?_ ?_
 · exact ⟨⟨none, rfl⟩, S1.trans s3.sameB, (B1.same s3).mono (by omega), zad, [], rfl, rfl, fun c hc => by simp at hc⟩
 · rintro i σ' ys H' hi ⟨_, _, _, h1, ts, rfl, h2, _⟩
   exact ⟨h1, by rw [List.length_map, h2]; exact zaA (by omega)⟩
 · rintro i σ' ys H4 N hi ⟨⟨v, rfl⟩, S4, B4, h1, ts, rfl, h2, h3⟩ hN
   refine ⟨_, rfl, b, g, l, _, rfl, B4, by omega, fun x H5 ok B5 S5 => ?_⟩
   have h5 := S5 _ _ h1 pb pg
   refine ⟨h5, hN _ _ _ ⟨⟨_, rfl⟩, (S4.trans S5).off np, (B5.off pb pg pl).mono (by omega), zad, ts ++ [x], ?_, ?_, ?_⟩⟩
   · rw [List.map_append]; rfl
   · rw [List.length_append, h2]; rfl
   · intro c' hc'
     rcases List.mem_append.mp hc' with z | z
     · exact h3 c' z
     · rw [List.mem_singleton.mp z]; exact ok
 · rintro σ' ys H4 ⟨_, S4, B4, h1, ts, rfl, h2, h3⟩
   refine ⟨p, ts, rfl, SqL.of h1, by omega, fun z ms nd mem le so hz => ?_⟩
   obtain ⟨zb, zg, zl⟩ := B4.free hz
   have s5 := zag hz (.lst (ms.map V.str))
   exact q z ms _ (S4.none hz zb zg) zad (zgT so nd) (fun f hf => h3 f ((mem f).mp hf)) (by omega) ((B4.same s5).mono (by omega)) (S4.trans s5.sameB)
theorem zeH (F : Fun K "_law_moved" "_law_moved" zbH f fd) (G_law_draw : Γ14 P w K mg base) (G_law_number : Γ15 P w K mg base) (G_law_held : Γ16 P w K mg base) : FnOk P w K mg base CX0 3 f fd ["bag", "span"] (ze4) := by
 refine F.ok sc_law_moved (fun vs H Q E h => ?_) (fun cdv A outer s H vs Q E hr h => ?_)
 · obtain ⟨b, g, l, n, w, lo0, hi0, rfl, Bg, Sp, hn, q⟩ := h
   rfl
 obtain ⟨b, g, l, n, w, lo0, hi0, rfl, Bg, Sp, hn, q⟩ := h
 refine ⟨_, (zae (zaI (i := 2) sc_law_moved.nd rfl (Or.inl rfl) (zbr zab))
  (zae (zcx PassesOwn.never rfl (zg9 (pv 1)) (zas (i := 3) sc_law_moved.nd rfl (Or.inl rfl)) (zae (zaI (i := 4) sc_law_moved.nd rfl (Or.inl rfl) (zau G_law_draw (hr.mono (by decide)) rfl (zaa (pv 0) (zaa zac zab))))
  (zaf (zaK (PW.pt (zbX (zan zbT (pv 4) zac (zaq _)) (zbp (PW.pt (zcw (zcW (zbC (pv 3))) (zbY (zan zfo (pv 4) zac (zaq _)))))))) (zaf (zbK (zdi PySem.F.plainAttrs_list PySem.F.slot_list_append PySem.F.type_list_append zbD (pv 2) (zaa zez zab)))) (zaf (zaK (PW.pt (zbX (zcW (zbC (pv 3))) (zbp (zan zbT (pv 4) zac (zaq _))))) (zaf (zbK (zdi PySem.F.plainAttrs_list PySem.F.slot_list_append PySem.F.type_list_append zbD (pv 2) (zaa (zau G_law_number (hr.mono (by decide)) rfl (zaa (pv 0) zab)) zab)))) (zaf (zbK (zdi PySem.F.plainAttrs_list PySem.F.slot_list_append PySem.F.type_list_append zbD (pv 2) (zaa (zau G_law_held (hr.mono (by decide)) rfl (zaa (zaC zbZ (zaC zbs (pv 3) (pv 4)) zac) zab)) zab))))))))))
  (zae (zdg (pv 2) (zjF rfl (zax (zas (i := 5) sc_law_moved.nd rfl (Or.inl rfl)) (zax (zas (i := 6) sc_law_moved.nd rfl (Or.inl rfl)) zbL))))
  (zae (zaK (PW.pt (zcw (zcW (zdj (pv 5))) (zcw (zcW (zdj (pv 6))) (zbY (zan zfo (pv 5) (pv 6) (zaq _)))))) (zaf (zak (zaQ (zaa (pv 6) (zaa (pv 5) zab))))) zar)
  (zaf (zak (zaQ (zaa (pv 5) (zaa (pv 6) zab))))))))), ?_⟩
 obtain ⟨a, rfl, ea⟩ := Sp
 refine ⟨sz0, fun e he => ?_⟩
 have s1 := zag he (.lst [])
 obtain ⟨eb, eg, _⟩ := Bg.free he
 have none_in : inT none := fun i z => by cases z
 refine ⟨_, rfl, a, rfl, ⟨_, SqT.of (s1 _ _ ea)⟩, zjj (K := K) (a := a) (xs := [eV lo0, eV hi0]) (fun i σ H' => ∃ (os : List (Option Int)) (x3 x4 : Option V), σ = [some (.ref b), some (.ref a), some (.ref e), x3, x4, none, none] ∧ Bag H' b g l (n + 4 * (i : Int)) ∧ SameB b g H H' ∧ H' e = some (.lst (os.map eV)) ∧ os.length = i ∧ ∀ o ∈ os, inT o)
  ⟨[], none, none, rfl, (Bg.same s1).mono (by omega), s1.sameB, zad, rfl, fun _ z => nomatch z⟩ (fun i σ H' _ ⟨_, _, _, _, _, s2, _⟩ => SqT.of (s2.tup Bg ea)) ?_ ?_⟩
 · rintro i x σ H' hx ⟨os, x3, x4, rfl, B1, S1, ee, eo, ob⟩
   have hi2 : i < 2 := (List.getElem?_eq_some_iff.mp hx).1
   obtain ⟨o0, rfl⟩ : ∃ o0, x = eV o0 := by
    match i, hx with
    | 0, hx => exact ⟨lo0, (Option.some.inj hx).symm⟩
    | 1, hx => exact ⟨hi0, (Option.some.inj hx).symm⟩
   refine ⟨_, rfl, b, g, l, _, 5, rfl, B1, by omega, by decide, by decide, fun st H2 r0 r1 B2 S2 => ?_⟩
   have e2 := S2 e _ ee eb eg
   have lt : (os.map eV).length < sizeLine := by rw [List.length_map]; exact zaA (by omega)
   have fin : ∀ (o' : Option Int) (H3 : Hp), inT o' → Bag H3 b g l (n + 4 * (i : Int) + 4) → SameB b g H H3 → H3 e = some (.lst (os.map eV)) →
    ∃ (os' : List (Option Int)) (y3 y4 : Option V), [some (V.ref b), some (V.ref a), some (V.ref e), some (eV o0), some (V.int st), none, none] = [some (.ref b), some (.ref a), some (.ref e), y3, y4, none, none] ∧ Bag (upd H3 e (.lst (os.map eV ++ [eV o']))) b g l (n + 4 * ((i + 1 : Nat) : Int)) ∧ SameB b g H (upd H3 e (.lst (os.map eV ++ [eV o']))) ∧ (upd H3 e (.lst (os.map eV ++ [eV o']))) e = some (.lst (os'.map eV)) ∧ os'.length = i + 1 ∧ ∀ o ∈ os', inT o := fun o' H3 h1 h2 h3 h4 => by
    refine ⟨os ++ [o'], _, _, rfl, ?_, ?_, ?_, ?_, ?_⟩
    · obtain ⟨⟨gs, ls, c, st', k1, k2, k3, k4, k5, k6, k7, k8, k9, k10⟩, gl⟩ := h2
      have le : l ≠ e := fun z => by rw [z, h4] at k3; injection k3 with k3; injection k3 with k3; cases k5' : ls with
       | nil => rw [k5'] at k5; exact absurd k5 (by decide)
       | cons y ys =>
        obtain ⟨gs0, ls0, c0, st0, m1, m2, m3, _⟩ := Bg.ex
        have := zao m3 he
        exact this z
      exact ⟨⟨gs, ls, c, st', by rw [zal (Ne.symm eb)]; exact k1, by rw [zal (Ne.symm eg)]; exact k2, by rw [zal le]; exact k3, k4, k5, k6, k7, k8, by omega, k10⟩, gl⟩
    · intro a' o h5 h6 h7
      have : a' ≠ e := fun z => by rw [z, he] at h5; cases h5
      rw [zal this]
      exact h3 a' o h5 h6 h7
    · rw [zad, List.map_append]; rfl
    · rw [List.length_append, eo]; rfl
    · intro o ho
      rcases List.mem_append.mp ho with z | z
      · exact ob o z
      · rw [List.mem_singleton.mp z]; exact h1
   have S3 := S1.trans S2
   have B3 : Bag H2 b g l (n + 4 * (i : Int) + 4) := B2.mono (by omega)
   refine ⟨_, rfl, rfl, _, rfl, ?_⟩
   refine ite2 (fun _ => ?_) (fun _ => ?_)
   · exact iteT ⟨_, rfl, .inl ⟨rfl, _, SqL.of e2⟩, e, _, _, rfl, rfl, e2, lt, fin none H2 none_in B3 S3 e2⟩
   refine ⟨_, rfl, _, rfl, ?_⟩
   cases o0 with
   | none =>
    refine iteT ⟨_, rfl, _, _, rfl, rfl, _, rfl, ite2 (fun _ => ?_) (fun _ => ?_)⟩
    · exact ⟨_, rfl, .inl ⟨rfl, _, SqL.of e2⟩, e, _, _, rfl, rfl, e2, lt, fin none H2 none_in B3 S3 e2⟩
    · refine ⟨_, rfl, _, rfl, iteT (iteT ⟨_, rfl, .inl ⟨rfl, _, SqL.of e2⟩, _, rfl, b, g, l, _, rfl, B2, by omega, fun x H4 x0 x1 B4 S4 => ?_⟩)⟩
      exact ⟨e, _, _, rfl, rfl, S4 e _ e2 eb eg, lt, fin (some x) H4 (fun i z => by injection z with z; subst z; exact ⟨x0, x1⟩) (B4.mono (by omega)) (S3.trans S4) (S4 e _ e2 eb eg)⟩
   | some i0 =>
    refine iteF (iteF ⟨_, rfl, _, rfl, iteF ⟨_, rfl, rfl, _, rfl, ite2 (fun _ => ?_) (fun _ => ?_)⟩⟩)
    · refine ⟨_, rfl, .inl ⟨rfl, _, SqL.of e2⟩, _, rfl, b, g, l, _, rfl, B2, by omega, fun x H4 x0 x1 B4 S4 => ?_⟩
      exact ⟨e, _, _, rfl, rfl, S4 e _ e2 eb eg, lt, fin (some x) H4 (fun i z => by injection z with z; subst z; exact ⟨x0, x1⟩) (B4.mono (by omega)) (S3.trans S4) (S4 e _ e2 eb eg)⟩
    · have hh := zf6 (i0 + st - 1)
      exact ⟨_, rfl, .inl ⟨rfl, _, SqL.of e2⟩, _, rfl, _, rfl, _, _, rfl, rfl, _, _, rfl, rfl, _, rfl, e, _, _, rfl, rfl, e2, lt, fin (some (zfH (i0 + st - 1))) H2 (fun i z => by injection z with z; subst z; unfold T15 at *; omega) B3 S3 e2⟩
 · rintro σ H' ⟨os, x3, x4, rfl, B1, S1, ee, eo, ob⟩
   match os, eo with
   | [o1, o2], _ =>
    have i1 := ob o1 (by simp)
    have i2 := ob o2 (by simp)
    refine ⟨_, rfl, e, _, rfl, SqL.of ee, rfl, _, _, rfl, _, _, rfl, rfl, ?_⟩
    have fin : ∀ (lo hi : Option Int), leO lo hi = true → inT lo → inT hi → ∀ t, H' t = none → Q (.ref t) (upd H' t (.tup [eV lo, eV hi])) := fun lo hi h1 h2 h3 t ht =>
     q _ lo hi _ ⟨t, rfl, zad⟩ ⟨h1, h2, h3⟩ ((B1.same (zag ht _)).mono (by show n + 4 * ((2 : Nat) : Int) ≤ n + 8; omega)) (S1.trans (zag ht _).sameB)
    refine ⟨_, rfl, _, rfl, ?_⟩
    cases o1 with
    | none => exact iteF (iteF ⟨_, rfl, _, rfl, zq2, fin none o2 (by cases o2 <;> rfl) i1 i2⟩)
    | some x =>
     refine iteT ⟨_, rfl, _, rfl, ?_⟩
     cases o2 with
     | none => exact iteF (iteF ⟨_, rfl, _, rfl, zq2, fin (some x) none rfl i1 i2⟩)
     | some y =>
      refine iteT ⟨_, rfl, _, rfl, _, _, rfl, rfl, _, rfl, ite2 (fun h => ?_) (fun h => ?_)⟩
      · exact ⟨_, rfl, _, rfl, zq2, fin (some y) (some x) (decide_eq_true (by have h := of_decide_eq_true h; omega)) i2 i1⟩
      · exact ⟨_, rfl, _, rfl, zq2, fin (some x) (some y) (decide_eq_true (by have h : ¬ y < x := fun z => h (decide_eq_true z); omega)) i1 i2⟩
theorem zdn (F : Fun K "_law_is_field" "_law_is_field" zaT f fd)  : FnOk P w K mg base CX0 1 f fd ["thing"] (zbV) := by
 refine F.ok zdc (fun vs H Q E h => ?_) (fun cdv A outer s H vs Q E hr h => ?_)
 · obtain ⟨x, rfl, F1, q⟩ := h
   rfl
 obtain ⟨x, rfl, F1, q⟩ := h
 refine ⟨_, (zae (zaK (PW.pt (zbX (zaR (zaN (zai (zam (n := "")) rfl B.isinstance_ zaj (zaa (pv 0) (zaa (zaD (v := .ty "str") rfl B.str_ zge rfl) zab))))) (zbX (zan zfn (zai zb4 rfl B.len_ zaY (zaa (pv 0) zab)) zac (zaq _)) (zbp (zan zfo (zai zb4 rfl B.len_ zaY (zaa (pv 0) zab)) zac (zaq _)))))) (zaf (zak zbB)) zar)
  (zaf (zak (za2 (ziM (zbJ hr)) (zdy (N' := ["sign"]) (js := [none]) rfl (zc3 (N := ["thing"]) (outer := zah zaT) (by decide +kernel)) (ziJ (pv 0)) (fun _ _ _ _ _ => (zas (i := 0) (show List.Nodup (["sign"] : List Str) by decide +kernel) rfl (Or.inl rfl))) (fun _ _ _ _ _ => zd5 (zan zeC (pv 0) zdF (by with_unfolding_all rfl))) (fun _ _ _ _ _ => (pv 0))) (zbr zab) (zaq _))))), ?_⟩
 have l1 := F1.one
 have l8 := F1.eight
 refine ⟨_, rfl, _, "str", "str", true, rfl, .str x, rfl, _, rfl, iteF ⟨_, rfl, x, rfl, zgp (by omega), _, _, rfl, rfl, _, rfl, ite2 (fun h => absurd (of_decide_eq_true h) (by omega)) (fun _ => ⟨_, rfl, x, rfl, zgp (by omega), _, _, rfl, rfl, _, rfl, ite2 (fun h => absurd (of_decide_eq_true h) (by omega)) (fun _ => ?_)⟩)⟩⟩
 refine ⟨_, rfl, x, rfl, fun p hp => ?_⟩
 have s0 := zag hp (.lst [])
 refine ziP (xs := L2.signs x) (fun i σ' ys H' => (∃ v, σ' = [v]) ∧ Same H H' ∧ H' p = some (.lst ys) ∧ ys = []) ⟨⟨none, rfl⟩, s0, zad, rfl⟩ ?_ ?_ ?_
 · rintro i σ' ys H' hi ⟨_, _, h1, h2⟩
   exact ⟨h1, by rw [h2]; exact zaA (by simp)⟩
 · rintro i y σ' ys H' N hy ⟨⟨v, rfl⟩, s, h1, h2⟩ hN
   unfold L2.signs at hy
   rw [List.getElem?_map] at hy
   cases hc : x.cps.toList[i]? with
   | none => rw [hc] at hy; cases hy
   | some c =>
    rw [hc] at hy
    obtain rfl : V.str ⟨#[c]⟩ = y := Option.some.inj hy
    have ok := F1.all c (List.mem_of_getElem? hc)
    refine ⟨_, rfl, _, _, rfl, rfl, _, rfl, ?_⟩
    rw [zks ok]
    exact iteF (hN _ _ _ ⟨⟨_, rfl⟩, s, h1, h2⟩)
 · rintro σ' ys H' ⟨_, s, h1, rfl⟩
   refine ⟨sz0, fun z hz => ?_⟩
   have s3 := zag hz (.lst [])
   exact zko (ns := []) (SqL.of (s3 _ _ h1)) (SqL.of zad) (q _ (s.trans s3))
theorem zdA (F : Fun K "_law_is_span" "_law_is_span" zbd f fd) (G_law_whole : Γ18 P w K mg base) : FnOk P w K mg base CX0 2 f fd ["low", "high"] (zcm) := by
 refine F.ok sc_law_is_span (fun vs H Q E h => ?_) (fun cdv A outer s H vs Q E hr h => ?_)
 · obtain ⟨lo, hi, rfl, hle, q⟩ := h
   rfl
 obtain ⟨lo, hi, rfl, hle, q⟩ := h
 refine ⟨_, (zae (zcx PassesOwn.never rfl (zcr (zbr (zaa (pv 0) (zaa (pv 1) zab)))) (zas (i := 2) sc_law_is_span.nd rfl (Or.inl rfl)) (zaf (zaK (PW.pt (zcw (zcW (zdj (pv 2))) (zbY (zaR (zaN (zau G_law_whole (hr.mono (by decide)) rfl (zaa (pv 2) zab))))))) (zaf (zak zbB)) zar)))
  (zaf (zak (zfm (zck (zbC (pv 0))) (zfm (zck (zbC (pv 1))) (zbq (za2 zii (pv 0) (pv 1) (zaq _)))))))), ?_⟩
 refine ⟨_, rfl, _, rfl, zq2, fun l hl => ?_⟩
 have s0 := zag hl (.lst [eV lo, eV hi])
 have el : (upd H l (.lst [eV lo, eV hi])) l = some (.lst [eV lo, eV hi]) := zad
 generalize upd H l (.lst [eV lo, eV hi]) = H0 at *
 refine ⟨l, rfl, ⟨_, SqL.of el⟩, zc6 (K := K) (a := l) (xs := [eV lo, eV hi]) (fun i σ H' => (∃ y, σ = [some (eV lo), some (eV hi), y]) ∧ Same H0 H') ⟨⟨none, rfl⟩, Same.refl _⟩ (fun i σ H' _ ⟨_, z⟩ => SqL.of (z _ _ el)) ?_ ?_⟩
 · rintro i x σ H1 hx ⟨⟨y, rfl⟩, s1⟩
   obtain ⟨o, rfl⟩ : ∃ o, x = eV o := by
    match i, hx with
    | 0, hx => exact ⟨lo, (Option.some.inj hx).symm⟩
    | 1, hx => exact ⟨hi, (Option.some.inj hx).symm⟩
    | k + 2, hx => simp at hx
   cases o with
   | none => exact ⟨_, rfl, _, rfl, iteF ⟨⟨_, rfl⟩, s1⟩⟩
   | some k => exact ⟨_, rfl, _, rfl, iteT ⟨_, rfl, .int k, "int", rfl, .int k, _, rfl, iteF ⟨⟨_, rfl⟩, s1⟩⟩⟩
 · rintro σ H1 ⟨⟨y, rfl⟩, s1⟩
   have t1 := s0.trans s1
   cases lo with
   | none => exact ⟨_, rfl, _, rfl, iteT (q _ t1)⟩
   | some l' =>
    cases hi with
    | none => exact ⟨_, rfl, _, rfl, iteF ⟨_, rfl, _, rfl, iteT (q _ t1)⟩⟩
    | some h' =>
     refine ⟨_, rfl, _, rfl, iteF ⟨_, rfl, _, rfl, iteF ⟨_, rfl, _, rfl, _, _, rfl, rfl, ?_⟩⟩⟩
     show Q (.bl (decide (l' ≤ h'))) H1
     rw [show decide (l' ≤ h') = true from hle]
     exact q _ t1
theorem zdB (F : Fun K "_law_is_made" "_law_is_made" zbe f fd) (G_law_is_field : Γ23 P w K mg base) (G_law_is_span : Γ24 P w K mg base) (G_law_whole : Γ18 P w K mg base) : FnOk P w K mg base CX0 3 f fd ["thing", "size"] (ze5) := by
 refine F.ok sc_law_is_made (fun vs H Q E h => ?_) (fun cdv A outer s H vs Q E hr h => ?_)
 · obtain ⟨a, p, rfl, hp, pok, q⟩ := h
   rfl
 obtain ⟨a, p, rfl, hp, pok, q⟩ := h
 refine ⟨_, (zae (zaK (zaR (zaN (zai (zam (n := "")) rfl B.isinstance_ zaj (zaa (pv 0) (zaa (zaD (v := .ty "tuple") rfl B.tuple_ zbt rfl) zab))))) (zaf (zak zbB)) zar)
  (zae (zcx PassesOwn.never rfl (zbl rfl B.range_ (zaa (zai zat rfl B.len_ zaY (zaa (pv 0) zab)) zab)) (zas (i := 2) sc_law_is_made.nd rfl (Or.inl rfl)) (zae (zaI (i := 3) sc_law_is_made.nd rfl (Or.inl rfl) (zaF zaZ (pv 0) (pv 2) (fun _ _ => rfl)))
  (zae (zaK (PW.pt (zbX (zaR (zaN (zai (zam (n := "")) rfl B.isinstance_ zaj (zaa (pv 3) (zaa (zaD (v := .ty "tuple") rfl B.tuple_ zbt rfl) zab))))) (zbX (zan zdk (zai zat rfl B.len_ zaY (zaa (pv 3) zab)) (pv 1) (zaq _)) (zbp (zaR (zaN (zau G_law_is_field (hr.mono (by decide)) rfl (zaa (zaF zaZ (pv 3) zac (fun _ _ => rfl)) zab)))))))) (zaf (zak zbB)) zar)
  (zae (zaK (PW.pt (zcw (zan zfo (pv 2) zac (zaq _)) (zbY (zaR (zan zdl (zaF zaZ (zaF zaZ (pv 0) (zaC zbZ (pv 2) zac) (fun _ _ => rfl)) zac (fun _ _ => rfl)) (zaF zaZ (pv 3) zac (fun _ _ => rfl)) (zaq _)))))) (zaf (zak zbB)) zar)
  (zaf (zaK (PW.pt (zbX (PW.pt (zcw (zan zbT (pv 1) zac (zaq _)) (zbY (zaR (zaN (zau G_law_is_span (hr.mono (by decide)) rfl (zaa (zaF zaZ (pv 3) zac (fun _ _ => rfl)) (zaa (zaF zaZ (pv 3) zac (fun _ _ => rfl)) zab)))))))) (zbp (PW.pt (zcw (zan zbT (pv 1) zac (zaq _)) (zbY (zaR (zaN (zau G_law_whole (hr.mono (by decide)) rfl (zaa (zaF zaZ (pv 3) zac (fun _ _ => rfl)) zab)))))))))) (zaf (zak zbB)) zar))))))
  (zaf (zak zbB)))), ?_⟩
 obtain ⟨ps, rfl, hA, hP⟩ := hp
 have ll : ps.length ≤ 100 := by have := pok.len; rw [List.length_map] at this; exact this
 refine ⟨_, rfl, _, "tuple", "tuple", true, rfl, .tup hA, rfl, _, rfl, iteF ?_⟩
 refine ⟨_, rfl, a, _, rfl, .inr (SqT.of hA), _, rfl, (by rw [List.length_map]; omega), (by rw [List.length_map]; omega), zds (lo := 0) (n := (ps.map fun (p : Addr × WP) => V.ref p.1).length) (fun i σ H' => (∃ y2 y3, σ = [some (.ref a), some (.int 3), y2, y3]) ∧ Same H H') ⟨⟨none, none, rfl⟩, Same.refl _⟩ ?_ ?_⟩
 · rintro i σ H' hi ⟨⟨y2, y3, rfl⟩, s⟩
   rw [List.length_map] at hi
   obtain ⟨P1, e1⟩ : ∃ P1, ps[i]? = some P1 := ⟨ps[i], by simp [hi]⟩
   have hm := List.mem_of_getElem? e1
   have hx : atI (ps.map fun p => V.ref p.1) (0 + (i : Int)) = some (.ref P1.1) := by
    rw [Int.zero_add]
    exact za4 (by rw [List.getElem?_map, e1]; rfl)
   have h1 := s _ _ (hP P1 hm)
   obtain ⟨fok, fle⟩ := pok.ok P1.2 (List.mem_map_of_mem hm)
   refine ⟨_, rfl, _, rfl, a, _, _, _, rfl, rfl, SqT.of (s _ _ hA), hx, ?_⟩
   refine ⟨_, rfl, _, "tuple", "tuple", true, rfl, .tup h1, rfl, _, rfl, iteF ⟨_, rfl, P1.1, _, rfl, .inr (SqT.of h1), _, rfl, rfl, _, rfl, ite2 (fun h => absurd h (by simp)) (fun _ => ⟨_, rfl, P1.1, _, 0, _, rfl, rfl, SqT.of h1, rfl, P1.2.1, rfl, fok, fun H1 s1 => ⟨_, rfl, iteF ?_⟩⟩)⟩⟩
   have t1 := s.trans s1
   have g1 := s1 _ _ h1
   have last : ∀ (D : Ends), D.nx [some (.ref a), some (.int 3), some (.int (0 + (i : Int))), some (.ref P1.1)] H1 → D.nx [some (.ref a), some (.int 3), some (.int (0 + (i : Int))), some (.ref P1.1)] H1 := fun _ z => z
   refine ⟨_, rfl, _, _, rfl, rfl, _, rfl, ite2 (fun h => ?_) (fun h => ?_)⟩
   · have i0 : 0 < i := by have := of_decide_eq_true h; omega
     obtain ⟨P0, e0⟩ : ∃ P0, ps[i - 1]? = some P0 := ⟨ps[i - 1]'(by omega), List.getElem?_eq_getElem (by omega)⟩
     have hm0 := List.mem_of_getElem? e0
     have hx0 : atI (ps.map fun p => V.ref p.1) (0 + (i : Int) - 1) = some (.ref P0.1) := by
      rw [show 0 + (i : Int) - 1 = ((i - 1 : Nat) : Int) by omega]
      exact za4 (by rw [List.getElem?_map, e0]; rfl)
     have lt : ltF P0.2.1 P1.2.1 := by
      have := List.pairwise_iff_getElem.mp pok.asc (i - 1) i (by simp; omega) (by simp; omega) (by omega)
      simp only [List.getElem_map] at this
      rw [(List.getElem?_eq_some_iff.mp e0).2, (List.getElem?_eq_some_iff.mp e1).2] at this
      exact this
     refine ⟨_, rfl, _, rfl, _, _, rfl, rfl, a, _, _, _, rfl, rfl, SqT.of (t1 _ _ hA), hx0, P0.1, _, 0, _, rfl, rfl, SqT.of (t1 _ _ (hP P0 hm0)), rfl, _, rfl, P1.1, _, 0, _, rfl, rfl, SqT.of g1, rfl, _, _, rfl, rfl, _, rfl, ?_⟩
     rw [decide_eq_true (show P0.2.1.cps.toList < P1.2.1.cps.toList from lt)]
     refine iteF ?_
     refine ⟨_, rfl, rfl, _, rfl, ite2 (fun _ => ?_) (fun h => absurd (by decide) h)⟩
     refine ⟨_, rfl, P1.1, _, 1, _, rfl, rfl, SqT.of g1, rfl, _, rfl, P1.1, _, 2, _, rfl, rfl, SqT.of g1, rfl, P1.2.2.1, P1.2.2.2, rfl, fle, fun H2 s2 => ⟨_, rfl, iteF ?_⟩⟩
     exact ⟨_, rfl, rfl, _, rfl, ite2 (fun h => absurd h (by decide)) (fun _ => ⟨⟨_, _, rfl⟩, t1.trans s2⟩)⟩
   · refine ⟨_, rfl, rfl, _, rfl, ite2 (fun _ => ?_) (fun h => absurd (by decide) h)⟩
     refine ⟨_, rfl, P1.1, _, 1, _, rfl, rfl, SqT.of g1, rfl, _, rfl, P1.1, _, 2, _, rfl, rfl, SqT.of g1, rfl, P1.2.2.1, P1.2.2.2, rfl, fle, fun H2 s2 => ⟨_, rfl, iteF ?_⟩⟩
     exact ⟨_, rfl, rfl, _, rfl, ite2 (fun h => absurd h (by decide)) (fun _ => ⟨⟨_, _, rfl⟩, t1.trans s2⟩)⟩
 · rintro σ H' ⟨_, s⟩
   exact q _ s
theorem zfp (F : Fun K "_law_wish" "_law_wish" zb7 f fd) (G_law_span : Γ17 P w K mg base) (G_law_draw : Γ14 P w K mg base) : FnOk P w K mg base CX0 4 f fd ["bag", "fields"] (zc9) := by
 refine F.ok sc_law_wish (fun vs H Q E h => ?_) (fun cdv A outer s H vs Q E hr h => ?_)
 · obtain ⟨b, g, l, fl, n, fs, rfl, Bg, hn, FA, q⟩ := h
   rfl
 obtain ⟨b, g, l, fl, n, fs, rfl, Bg, hn, FA, q⟩ := h
 refine ⟨_, (zae (zaI (i := 2) sc_law_wish.nd rfl (Or.inl rfl) (zbr zab))
  (zae (zcx PassesOwn.never rfl (zcr (pv 1)) (zas (i := 3) sc_law_wish.nd rfl (Or.inl rfl)) (zae (zaI (i := 4) sc_law_wish.nd rfl (Or.inl rfl) (za2 zfo (zau G_law_draw (hr.mono (by decide)) rfl (zaa (pv 0) (zaa zac zab))) zac (zaq _)))
  (zae (zaI (i := 5) sc_law_wish.nd rfl (Or.inl rfl) (zau G_law_span (hr.mono (by decide)) rfl (zaa (pv 0) zab)))
  (zaf (zaK (zaN (pv 4)) (zaf (zbK (zdi PySem.F.plainAttrs_list PySem.F.slot_list_append PySem.F.type_list_append zbD (pv 2) (zaa (zaQ (zaa (pv 3) (zaa (zaF zaZ (pv 5) zac (fun _ _ => rfl)) (zaa (zaF zaZ (pv 5) zac (fun _ _ => rfl)) zab)))) zab)))) zar)))))
  (zaf (zak (zeA zeh rfl B.tuple_ zbt (zaa (pv 2) zab)))))), ?_⟩
 refine ⟨sz0, fun r hr' => ?_⟩
 obtain ⟨rb, rg, rl⟩ := Bg.free hr'
 have s0 := zag hr' (.lst [])
 have FA0 := FA.sameB s0.sameB
 have rf : r ≠ fl := fun e => by rw [e, FA.at'] at hr'; cases hr'
 refine ⟨_, rfl, fl, rfl, ⟨_, SqL.of FA0.at'⟩, zc6 (K := K) (a := fl) (xs := fs.map V.str) (fun i σ H' => (∃ y3 y4 y5, σ = [some (.ref b), some (.ref fl), some (.ref r), y3, y4, y5]) ∧ SameB b g H H' ∧ Bag H' b g l (n + 9 * i) ∧ FieldsAt H' b g fl fs ∧
  ∃ qs : List (Addr × WP), H' r = some (.lst (qs.map fun q => V.ref q.1)) ∧ (∀ q ∈ qs, H' q.1 = some (.tup [.str q.2.1, eV q.2.2.1, eV q.2.2.2]) ∧ Good q.2.2.1 q.2.2.2) ∧ (qs.map (·.2.1)).Sublist (fs.take i)) ?_ ?_ ?_ ?_⟩
 · exact ⟨⟨none, none, none, rfl⟩, s0.sameB, (Bg.same s0).mono (by omega), FA0, [], zad, fun q hq => by simp at hq, by simp⟩
 · rintro i σ H' _ ⟨_, _, _, F1, _⟩
   exact SqL.of F1.at'
 · rintro i x σ H1 hx ⟨⟨y3, y4, y5, rfl⟩, S1, B1, F1, qs, e1, a1, u1⟩
   rw [List.getElem?_map] at hx
   cases ef : fs[i]? with
   | none => rw [ef] at hx; cases hx
   | some f' =>
    rw [ef] at hx
    obtain rfl : V.str f' = x := Option.some.inj hx
    have li : i < 9 := by have := (List.getElem?_eq_some_iff.mp ef).1; have := FA.len; omega
    refine ⟨_, rfl, b, g, l, _, 3, rfl, B1, by omega, by decide, by decide, fun c H2 c0 c1 B2 S2 => ?_⟩
    refine ⟨_, _, rfl, rfl, ?_⟩
    refine ⟨_, rfl, b, g, l, _, rfl, B2, by omega, fun v lo hi H3 sp G3 B3 S3 => ?_⟩
    have S13 := S2.trans S3
    have S03 := S1.trans S13
    have e3 := S13 _ _ e1 rb rg
    have F3 := F1.sameB S13
    have a3 : ∀ q ∈ qs, H3 q.1 = some (.tup [.str q.2.1, eV q.2.2.1, eV q.2.2.2]) ∧ Good q.2.2.1 q.2.2.2 := fun q hq => ⟨S3.tup B2 (S2.tup B1 (a1 q hq).1), (a1 q hq).2⟩
    have u2 : (qs.map (·.2.1)).Sublist (fs.take (i + 1)) := u1.trans (List.take_sublist_take_left (by omega))
    refine ⟨_, rfl, _, rfl, ite2 (fun _ => ?_) (fun _ => ?_)⟩
    · obtain ⟨sa, rfl, es⟩ := sp
      refine ⟨_, rfl, .inl ⟨rfl, _, SqL.of e3⟩, _, rfl, _, rfl, sa, _, 0, _, rfl, rfl, SqT.of es, rfl, _, rfl, sa, _, 1, _, rfl, rfl, SqT.of es, rfl, zq3, fun t ht => ?_⟩
      have st := zag ht (.tup [V.str f', eV lo, eV hi])
      have e4 := st _ _ e3
      refine ⟨r, _, _, rfl, rfl, e4, (by rw [List.length_map]; have := u1.length_le; simp at this; exact zaA (by omega)), ?_⟩
      have tl := zdN (o := .lst (qs.map (fun q => V.ref q.1) ++ [V.ref t])) e4
      have nr : H r = none := hr'
      refine ⟨⟨_, _, _, rfl⟩, (S03.trans st.sameB).off nr, ((B3.same st).off rb rg rl).mono (by omega), ?_, qs ++ [(t, f', lo, hi)], ?_, ?_, ?_⟩
      · have F4 := F3.sameB st.sameB
        exact ⟨by rw [zal rf.symm]; exact F4.at', F4.nb, F4.ng, F4.len, F4.ok, F4.asc⟩
      · rw [zad, List.map_append]; rfl
      · intro q hq
        rcases List.mem_append.mp hq with z | z
        · exact ⟨tl _ _ (st _ _ (a3 q z).1), (a3 q z).2⟩
        · rw [List.mem_singleton.mp z]
          exact ⟨tl _ _ zad, G3⟩
      · rw [List.map_append, zaE ef]
        exact u1.append (List.Sublist.refl _)
    · exact ⟨⟨_, _, _, rfl⟩, S03, B3.mono (by omega), F3, qs, e3, a3, u2⟩
 · rintro σ H1 ⟨⟨y3, y4, y5, rfl⟩, S1, B1, F1, qs, e1, a1, u1⟩
   rw [show fs.take (fs.map V.str).length = fs from List.take_of_length_le (by simp)] at u1
   have ll : qs.length ≤ 9 := by have h1 := u1.length_le; have h2 := FA.len; rw [List.length_map] at h1; omega
   refine ⟨_, rfl, r, _, rfl, .inl ⟨SqL.of e1, fun t ht => ?_⟩⟩
   have st := zag ht (.tup (qs.map fun q => V.ref q.1))
   refine q t (qs.map (·.2)) _ ⟨qs, rfl, zad, fun q hq => st _ _ (a1 q hq).1⟩ ⟨by rw [List.length_map]; omega, fun p hp => ?_, ?_⟩ ((B1.same st).mono (by rw [List.length_map]; have := FA.len; omega)) (S1.trans st.sameB)
   · obtain ⟨q', hq', rfl⟩ := List.mem_map.mp hp
     exact ⟨FA.ok _ (u1.subset (List.mem_map_of_mem (f := fun (x : Addr × WP) => x.2.1) hq')), (a1 q' hq').2⟩
   · rw [List.map_map]
     exact FA.asc.sublist u1
theorem zft (F : Fun K "_law_like" "_law_like" zca f fd) (G_law_draw : Γ14 P w K mg base) (G_law_moved : Γ22 P w K mg base) : FnOk P w K mg base CX0 4 f fd ["bag", "wish"] (ze7) := by
 refine F.ok sc_law_like (fun vs H Q E h => ?_) (fun cdv A outer s H vs Q E hr h => ?_)
 · obtain ⟨b, g, l, n, wa, w', rfl, Bg, hn, hw, wd, q⟩ := h
   rfl
 obtain ⟨b, g, l, n, wa, w', rfl, Bg, hn, hw, wd, q⟩ := h
 refine ⟨_, (zae (zaI (i := 2) sc_law_like.nd rfl (Or.inl rfl) (zau G_law_draw (hr.mono (by decide)) rfl (zaa (pv 0) (zaa zac zab))))
  (zae (zaI (i := 3) sc_law_like.nd rfl (Or.inl rfl) (zau G_law_draw (hr.mono (by decide)) rfl (zaa (pv 0) (zaa (zai (zdu rfl) rfl B.max_ zhW (zaa zac (zaa (zai zat rfl B.len_ zaY (zaa (pv 1) zab)) zab))) zab))))
  (zae (zaK (PW.pt (zbX (zan (ziM (zbJ hr)) (pv 1) (zaQ zab) (zaq _)) (zbp (zan zbT (pv 2) zac (zaq _))))) (zaf (zak (pv 1))) zar)
  (zae (zaK (zan zbT (pv 2) zac (zaq _)) (zaf (zak (zbM zfd (pv 1) zcq (zcp (zja zgI zac))))) zar)
  (zae (zdg (zau G_law_moved (hr.mono (by decide)) rfl (zaa (pv 0) (zaa (zaQ (zaa (zaF zaZ (zaF zaZ (pv 1) (pv 3) (fun _ _ => rfl)) zac (fun _ _ => rfl)) (zaa (zaF zaZ (zaF zaZ (pv 1) (pv 3) (fun _ _ => rfl)) zac (fun _ _ => rfl)) zab))) zab))) (zdh rfl (zax (zas (i := 4) sc_law_like.nd rfl (Or.inl rfl)) (zax (zas (i := 5) sc_law_like.nd rfl (Or.inl rfl)) zbL))))
  (zaf (zak (zaC zhg (zaC zhg (zbM zfd (pv 1) zcq (zcp (pv 3))) (zaQ (zaa (zaQ (zaa (zaF zaZ (zaF zaZ (pv 1) (pv 3) (fun _ _ => rfl)) zac (fun _ _ => rfl)) (zaa (pv 4) (zaa (pv 5) zab)))) zab))) (zbM zfd (pv 1) (zcp (zaC zbs (pv 3) zac)) zcq))))))))), ?_⟩
 refine ⟨_, rfl, b, g, l, n, 5, rfl, Bg, by omega, by decide, by decide, fun c H1 c0 c1 B1 S1 => ?_⟩
 have P1 := hw.sameB Bg S1
 obtain ⟨xs1, ex1, lx1⟩ := P1.tyN
 have p8 := wd.len
 have big : ∀ m : Int, m ≤ 100 → m < 2 ^ 500 := fun m hm => by
  have : (100 : Int) < 2 ^ 500 := by decide
  omega
 obtain ⟨M, eM, M1, M2, M3⟩ : ∃ M : Int, (if ((xs1.length : Nat) : Int) > 1 then ((xs1.length : Nat) : Int) else 1) = M ∧ 1 ≤ M ∧ M ≤ 9 ∧ (0 < w'.length → M = w'.length) := ⟨_, rfl, by split <;> omega, by rw [lx1]; split <;> omega, by rw [lx1]; split <;> omega⟩
 refine ⟨_, rfl, _, rfl, wa, _, rfl, .inr (SqT.of ex1), _, _, rfl, ?_⟩
 rw [eM]
 refine ⟨b, g, l, _, M, rfl, B1, by omega, by omega, big M (by omega), fun at' H2 a0 a1 B2 S2 => ?_⟩
 have P2 := P1.sameB B1 S2
 have S02 := S1.trans S2
 refine zhk ?_
 dsimp only
 refine zjx (fun bb H' => bb = (w'.isEmpty || decide (V.int c = V.int 0)) ∧ Same H2 H') (fun R hR => ?_) ?_ ?_
 · refine ⟨_, rfl, (by show 0 ≤ sizeLine; exact Nat.zero_le _), fun ep hep => ?_⟩
   have s6 := zag hep (.tup [])
   refine zj1 (P2.same s6) zad ⟨_, rfl, ?_⟩
   cases he : w'.isEmpty with
   | true => exact iteT (hR _ _ ⟨by rw [he]; rfl, s6⟩)
   | false => exact iteF ⟨_, rfl, rfl, _, rfl, hR _ _ ⟨by rw [he]; rfl, s6⟩⟩
 · rintro H6 ⟨hb, s6⟩
   exact ⟨_, rfl, q wa w' _ (P2.same s6) wd ((B2.same s6).mono (by omega)) (S02.trans s6.sameB)⟩
 · rintro H6 ⟨hb, s6⟩
   have pne : 0 < w'.length := by
    cases w' with
    | nil => simp at hb
    | cons x r => simp
   have hc0 : c ≠ 0 := fun z => by
    subst z
    simp at hb
   have P6 := P2.same s6
   have B6 := B2.same s6
   have S06 := S02.trans s6.sameB
   obtain ⟨ps, rfl, hA, hP⟩ := P6
   have eM' := M3 pne
   rw [List.length_map] at eM' pne p8
   obtain ⟨k', rfl⟩ : ∃ k' : Nat, at' = (k' : Int) := ⟨at'.toNat, by omega⟩
   have hk : k' < ps.length := by omega
   obtain ⟨Pk, ePk⟩ : ∃ Pk, ps[k']? = some Pk := ⟨ps[k'], List.getElem?_eq_getElem hk⟩
   have hmk := List.mem_of_getElem? ePk
   have gk := wd.ok Pk.2 (List.mem_map_of_mem hmk)
   have hat : atI (ps.map fun (p : Addr × WP) => V.ref p.1) (k' : Int) = some (V.ref Pk.1) := za4 (by rw [List.getElem?_map, ePk]; rfl)
   refine ⟨_, rfl, rfl, _, rfl, ite2 (fun _ => ?_) (fun _ => ?_)⟩
   · refine ⟨_, rfl, _, rfl, _, rfl, wa, _, rfl, hA, fun p1 H7 s7 e7 => ?_⟩
     obtain ⟨rs, rsub, er⟩ := zgb (fun p : Addr × WP => V.ref p.1) ps none (some (-1))
     rw [er] at e7
     exact q p1 (rs.map (·.2)) H7 ⟨rs, rfl, e7, fun x hx => s7 _ _ (hP x (rsub.subset hx))⟩ (wd.sub (rsub.map _)) ((B6.same s7).mono (by omega)) (S06.trans s7.sameB)
   refine ⟨_, rfl, _, rfl, _, rfl, wa, _, _, _, rfl, rfl, SqT.of hA, hat, Pk.1, _, 1, _, rfl, rfl, SqT.of (hP Pk hmk), rfl, _, rfl, _, rfl, wa, _, _, _, rfl, rfl, SqT.of hA, hat, Pk.1, _, 2, _, rfl, rfl, SqT.of (hP Pk hmk), rfl, zq2, fun u hu => ?_⟩
   have s7 := zag hu (.tup [eV Pk.2.2.1, eV Pk.2.2.2])
   refine ⟨b, g, l, _, .ref u, Pk.2.2.1, Pk.2.2.2, rfl, B6.same s7, ⟨u, rfl, zad⟩, by omega, fun v lo hi H8 sp8 G8 B8 S8 => ?_⟩
   obtain ⟨m, rfl, em⟩ := sp8
   refine ⟨m, _, rfl, SqT.of em, rfl, _, _, rfl, _, _, rfl, rfl, ?_⟩
   have S08 := (S06.trans s7.sameB).trans S8
   have hA8 := S8.tup (B6.same s7) (s7 _ _ hA)
   have hP8 : ∀ x ∈ ps, H8 x.1 = some (.tup [.str x.2.1, eV x.2.2.1, eV x.2.2.2]) := fun x hx => S8.tup (B6.same s7) (s7 _ _ (hP x hx))
   refine ⟨_, rfl, _, rfl, _, rfl, wa, _, rfl, hA8, fun p1 H12 s12 e12 => ?_⟩
   rw [zhS rfl, ← List.map_take] at e12
   refine ⟨_, rfl, _, rfl, wa, _, _, _, rfl, rfl, SqT.of (s12 _ _ hA8), hat, Pk.1, _, 0, _, rfl, rfl, SqT.of (s12 _ _ (hP8 Pk hmk)), rfl, _, rfl, _, rfl, zq3, fun u2 hu2 => ?_⟩
   have s13 := zag hu2 (.tup [V.str Pk.2.1, eV lo, eV hi])
   have e13 : (upd H12 u2 (.tup [V.str Pk.2.1, eV lo, eV hi])) u2 = some (.tup [V.str Pk.2.1, eV lo, eV hi]) := zad
   generalize upd H12 u2 (.tup [V.str Pk.2.1, eV lo, eV hi]) = H13 at *
   refine ⟨(by show 1 ≤ sizeLine; decide), fun t1 ht1 => ?_⟩
   have s14 := zag ht1 (.tup [V.ref u2])
   have e14 : (upd H13 t1 (.tup [V.ref u2])) t1 = some (.tup [V.ref u2]) := zad
   generalize upd H13 t1 (.tup [V.ref u2]) = H14 at *
   have t14 := s12.trans (s13.trans s14)
   refine ⟨p1, t1, _, _, rfl, rfl, s14 _ _ (s13 _ _ e12), e14, (by rw [List.length_map, List.length_take]; exact zgp (by simp; omega)), fun r1 H15 s15 e15 => ?_⟩
   refine ⟨_, rfl, _, rfl, _, _, rfl, rfl, _, rfl, wa, _, rfl, s15 _ _ (t14 _ _ hA8), fun p2 H16 s16 e16 => ?_⟩
   rw [zhT (n := k' + 1) (by omega), ← List.map_drop] at e16
   refine ⟨r1, p2, _, _, rfl, rfl, s16 _ _ e15, e16, (by rw [List.length_append, List.length_map, List.length_take, List.length_map, List.length_drop]; exact zgp (by simp; omega)), fun r H17 s17 e17 => ?_⟩
   have tt := t14.trans (s15.trans (s16.trans s17))
   have er : ((ps.take k').map fun p : Addr × WP => V.ref p.1) ++ [V.ref u2] ++ (ps.drop (k' + 1)).map (fun p : Addr × WP => V.ref p.1) = (ps.take k' ++ [((u2, Pk.2.1, lo, hi) : Addr × WP)] ++ ps.drop (k' + 1)).map fun p : Addr × WP => V.ref p.1 := by
    simp
   rw [er] at e17
   have eqs : ps.take k' ++ Pk :: ps.drop (k' + 1) = ps := by
    have := List.take_append_drop k' ps
    rw [List.drop_eq_getElem_cons hk] at this
    rw [(List.getElem?_eq_some_iff.mp ePk).2] at this
    exact this
   refine q r ((ps.take k' ++ [((u2, Pk.2.1, lo, hi) : Addr × WP)] ++ ps.drop (k' + 1)).map (·.2)) _ ⟨_, rfl, e17, fun x hx => ?_⟩ ?_ ((B8.same tt).mono (by omega)) (S08.trans tt.sameB)
   · rcases List.mem_append.mp hx with z | z
     · rcases List.mem_append.mp z with z | z
       · exact tt _ _ (hP8 x (List.mem_of_mem_take z))
       · rw [List.mem_singleton.mp z]; exact s17 _ _ (s16 _ _ (s15 _ _ (s14 _ _ e13)))
     · exact tt _ _ (hP8 x (List.mem_of_mem_drop z))
   · have fsame : ((ps.take k' ++ [((u2, Pk.2.1, lo, hi) : Addr × WP)] ++ ps.drop (k' + 1)).map (·.2)).map (·.1) = (ps.map (·.2)).map (·.1) := by
      have e2 : (ps.map (·.2)).map (·.1) = ((ps.take k' ++ Pk :: ps.drop (k' + 1)).map (·.2)).map (·.1) := by rw [eqs]
      rw [e2]
      simp
     refine ⟨?_, ?_, by rw [fsame]; exact wd.asc⟩
     · have := congrArg List.length fsame
       simp only [List.length_map] at this ⊢
       rw [this]
       exact p8
     · intro x hx
       obtain ⟨y, hy, rfl⟩ := List.mem_map.mp hx
       rcases List.mem_append.mp hy with z | z
       · rcases List.mem_append.mp z with z | z
         · exact wd.ok _ (List.mem_map_of_mem (List.mem_of_mem_take z))
         · rw [List.mem_singleton.mp z]; exact ⟨gk.1, G8⟩
       · exact wd.ok _ (List.mem_map_of_mem (List.mem_of_mem_drop z))
theorem zeJ (F : Fun K "_law_ahead" "_law_ahead" zbI f fd)  : FnOk P w K mg base CX0 1 f fd ["one", "other"] (zfa) := by
 refine F.ok sc_law_ahead (fun vs H Q E h => ?_) (fun cdv A outer s H vs Q E hr h => ?_)
 · obtain ⟨a, b, w1, w2, rfl, hw1, hw2, ok1, ok2, q⟩ := h
   rfl
 obtain ⟨a, b, w1, w2, rfl, hw1, hw2, ok1, ok2, q⟩ := h
 refine ⟨_, (zae (zcx PassesOwn.never rfl (ziI rfl B.zip_ (zaa (pv 0) (zaa (pv 1) zab))) (zdh rfl (zax (zdh rfl (zax (zas (i := 2) sc_law_ahead.nd rfl (Or.inl rfl)) (zax (zas (i := 3) sc_law_ahead.nd rfl (Or.inl rfl)) (zax (zas (i := 4) sc_law_ahead.nd rfl (Or.inl rfl)) zbL)))) (zax (zdh rfl (zax (zas (i := 5) sc_law_ahead.nd rfl (Or.inl rfl)) (zax (zas (i := 6) sc_law_ahead.nd rfl (Or.inl rfl)) (zax (zas (i := 7) sc_law_ahead.nd rfl (Or.inl rfl)) zbL)))) zbL))) (zae (zaK (zan zdk (pv 2) (pv 5) (zaq _)) (zaf (zak (za2 zdl (pv 2) (pv 5) (zaq _)))) zar)
  (zae (zaK (zan zdk (pv 3) (pv 6) (zaq _)) (zaf (zak (zfm (zck (zbC (pv 3))) (zbq (zcz (zck (zdj (pv 6))) (zbq (za2 zfn (pv 3) (pv 6) (zaq _)))))))) zar)
  (zaf (zaK (zan zdk (pv 4) (pv 7) (zaq _)) (zaf (zak (zfm (zck (zbC (pv 7))) (zbq (zcz (zck (zdj (pv 4))) (zbq (za2 zfn (pv 4) (pv 7) (zaq _)))))))) zar)))))
  (zaf (zak (za2 zfn (zai zat rfl B.len_ zaY (zaa (pv 0) zab)) (zai zat rfl B.len_ zaY (zaa (pv 1) zab)) (zaq _))))), ?_⟩
 obtain ⟨ps, rfl, hA, hP⟩ := hw1
 obtain ⟨qs, rfl, hB, hQ⟩ := hw2
 refine ⟨_, rfl, _, rfl, a, b, rfl, ⟨_, SqT.of hA⟩, ⟨_, SqT.of hB⟩, zir (K := K) (a := a) (b := b) (xs := ps.map fun p => V.ref p.1) (ys := qs.map fun p => V.ref p.1) (fun i σ H' => (∃ y2 y3 y4 y5 y6 y7, σ = [some (.ref a), some (.ref b), y2, y3, y4, y5, y6, y7]) ∧ Same H H' ∧ (ps.map (·.2)).take i = (qs.map (·.2)).take i) ⟨⟨none, none, none, none, none, none, rfl⟩, Same.refl _, rfl⟩ (fun i σ H' _ ⟨_, z, _⟩ => ⟨SqT.of (z _ _ hA), SqT.of (z _ _ hB)⟩) ?_ ?_⟩
 · rintro i x y z σ H1 hx hy hz ⟨⟨y2, y3, y4, y5, y6, y7, rfl⟩, s1, tk⟩
   rw [List.getElem?_map] at hx hy
   cases e1 : ps[i]? with
   | none => rw [e1] at hx; cases hx
   | some p =>
   cases e2 : qs[i]? with
   | none => rw [e2] at hy; cases hy
   | some p' =>
    rw [e1] at hx
    rw [e2] at hy
    obtain rfl : V.ref p.1 = x := Option.some.inj hx
    obtain rfl : V.ref p'.1 = y := Option.some.inj hy
    have sz := zag hz (.tup [V.ref p.1, V.ref p'.1])
    have ez : (upd H1 z (.tup [V.ref p.1, V.ref p'.1])) z = some (.tup [V.ref p.1, V.ref p'.1]) := zad
    have t1 := s1.trans sz
    generalize upd H1 z (.tup [V.ref p.1, V.ref p'.1]) = H2 at *
    have f1 := t1 _ _ (hP p (List.mem_of_getElem? e1))
    have f2 := t1 _ _ (hQ p' (List.mem_of_getElem? e2))
    have g1 : (ps.map (·.2))[i]? = some p.2 := by rw [List.getElem?_map, e1]; rfl
    have g2 : (qs.map (·.2))[i]? = some p'.2 := by rw [List.getElem?_map, e2]; rfl
    have at' := zgg i _ _ p.2 p'.2 tk g1 g2
    obtain ⟨pa, f, lo, hi⟩ := p
    obtain ⟨qa, f', lo', hi'⟩ := p'
    dsimp only at at' f1 f2 g1 g2
    refine ⟨z, _, rfl, SqT.of ez, rfl, _, _, rfl, ⟨pa, _, rfl, SqT.of f1, rfl, _, _, rfl, _, _, rfl, _, _, rfl, rfl, ?_⟩⟩
    refine ⟨_, _, rfl, ⟨qa, _, rfl, SqT.of f2, rfl, _, _, rfl, _, _, rfl, _, _, rfl, rfl, rfl, ?_⟩⟩
    refine ⟨_, rfl, _, rfl, rfl, _, rfl, ite2 (fun h => ?_) (fun h => ?_)⟩
    · have ne : f ≠ f' := fun e => by subst e; simp at h
      refine ⟨_, rfl, _, rfl, _, _, rfl, rfl, ?_⟩
      have := at' (fun e => ne (congrArg (·.1) e))
      rw [show ltKy (ky (f, lo, hi)) (ky (f', lo', hi')) = decide (f.cps.toList < f'.cps.toList) from if_neg ne] at this
      rw [← this]
      exact q _ t1
    have ef : f = f' := by simpa using h
    subst ef
    have l1 : ∀ x : (Int × Int) × (Int × Int), ∀ y : (Int × Int) × (Int × Int), ltKy (f, x) (f, y) = lexP lt2 lt2 x y := fun x y => if_pos rfl
    refine ⟨_, rfl, _, rfl, by cases lo <;> cases lo' <;> rfl, _, rfl, ite2 (fun h => ?_) (fun h => ?_)⟩
    · have ne : lo ≠ lo' := fun e => by subst e; simp at h
      have := at' (fun e => ne (congrArg (fun x : WP => x.2.1) e))
      rw [show ltKy (ky (f, lo, hi)) (ky (f, lo', hi')) = lt2 (lpO lo) (lpO lo') from (l1 _ _).trans (if_neg fun e => ne (zhr e))] at this
      cases lo with
      | none =>
       refine ⟨_, rfl, _, rfl, iteT ?_⟩
       cases lo' with
       | none => exact absurd rfl ne
       | some m' => rw [show lt2 (lpO none) (lpO (some m')) = true from rfl] at this; rw [this] at q; exact q _ t1
      | some m =>
       refine ⟨_, rfl, _, rfl, iteF ?_⟩
       cases lo' with
       | none => rw [show lt2 (lpO (some m)) (lpO none) = false from rfl] at this; rw [this] at q; exact ⟨_, rfl, _, rfl, iteF (q _ t1)⟩
       | some m' =>
        refine ⟨_, rfl, _, rfl, iteT ⟨_, rfl, _, rfl, _, _, rfl, rfl, ?_⟩⟩
        rw [show lt2 (lpO (some m)) (lpO (some m')) = decide (m < m') by simp [lt2, lexP, lpO, ltI]; exact decide_eq_decide.mpr Iff.rfl] at this
        rw [this] at q
        exact q _ t1
    have el : lo = lo' := by
     by_cases e : lo = lo'
     · exact e
     · exact absurd (by simp; exact fun z => e (zf8 z)) h
    subst el
    have l2 : ltKy (ky (f, lo, hi)) (ky (f, lo, hi')) = lt2 (hpO hi) (hpO hi') := (l1 _ _).trans (if_pos rfl)
    refine ⟨_, rfl, _, rfl, by cases hi <;> cases hi' <;> rfl, _, rfl, ite2 (fun h => ?_) (fun h => ?_)⟩
    · have ne : hi ≠ hi' := fun e => by subst e; simp at h
      have := at' (fun e => ne (congrArg (fun x : WP => x.2.2) e))
      rw [l2] at this
      cases hi' with
      | none =>
       refine ⟨_, rfl, _, rfl, iteT ?_⟩
       cases hi with
       | none => exact absurd rfl ne
       | some m => rw [show lt2 (hpO (some m)) (hpO none) = true from rfl] at this; rw [this] at q; exact q _ t1
      | some m' =>
       refine ⟨_, rfl, _, rfl, iteF ?_⟩
       cases hi with
       | none => rw [show lt2 (hpO none) (hpO (some m')) = false from rfl] at this; rw [this] at q; exact ⟨_, rfl, _, rfl, iteF (q _ t1)⟩
       | some m =>
        refine ⟨_, rfl, _, rfl, iteT ⟨_, rfl, _, rfl, _, _, rfl, rfl, ?_⟩⟩
        rw [show lt2 (hpO (some m)) (hpO (some m')) = decide (m < m') by simp [lt2, lexP, hpO, ltI]; exact decide_eq_decide.mpr Iff.rfl] at this
        rw [this] at q
        exact q _ t1
    have eh : hi = hi' := by
     by_cases e : hi = hi'
     · exact e
     · exact absurd (by simp; exact fun z => e (zf8 z)) h
    subst eh
    exact ⟨⟨_, _, _, _, _, _, rfl⟩, t1, by rw [zaE g1, zaE g2, tk]⟩
 · rintro σ H1 ⟨⟨y2, y3, y4, y5, y6, y7, rfl⟩, s1, tk⟩
   refine ⟨_, rfl, a, _, rfl, .inr (SqT.of (s1 _ _ hA)), _, rfl, b, _, rfl, .inr (SqT.of (s1 _ _ hB)), _, _, rfl, rfl, ?_⟩
   have := ze0 (ps.map (·.2)) (qs.map (·.2)) (by simpa only [List.length_map] using tk)
   rw [List.length_map, List.length_map] at this
   rw [this] at q
   dsimp only
   rw [List.length_map, List.length_map]
   exact q _ s1
theorem zfs (F : Fun K "_law_list" "_law_list" zb9 f fd) (G_law_fields : Γ21 P w K mg base) (G_law_draw : Γ14 P w K mg base) (G_law_like : Γ27 P w K mg base) (G_law_wish : Γ26 P w K mg base) : FnOk P w K mg base CX0 5 f fd ["bag"] (ze6) := by
 refine F.ok sc_law_list (fun vs H Q E h => ?_) (fun cdv A outer s H vs Q E hr h => ?_)
 · obtain ⟨b, g, l, n, rfl, Bg, hn, q⟩ := h
   rfl
 obtain ⟨b, g, l, n, rfl, Bg, hn, q⟩ := h
 refine ⟨_, (zae (zaI (i := 1) sc_law_list.nd rfl (Or.inl rfl) (zaF zaw (zbr (zaa (zau G_law_draw (hr.mono (by decide)) rfl (zaa (pv 0) (zaa zac zab))) (zaa (zau G_law_draw (hr.mono (by decide)) rfl (zaa (pv 0) (zaa zac zab))) (zaa (zau G_law_draw (hr.mono (by decide)) rfl (zaa (pv 0) (zaa zac zab))) zab)))) (zaF zaw (zbr (zaa zac (zaa zac (zaa zac (zaa zac (zaa zac zab)))))) (zau G_law_draw (hr.mono (by decide)) rfl (zaa (pv 0) (zaa zac zab))) (fun _ _ => rfl)) (fun _ _ => rfl)))
  (zae (zaI (i := 2) sc_law_list.nd rfl (Or.inl rfl) (zau G_law_fields (hr.mono (by decide)) rfl (zaa (pv 0) (zaa zac zab))))
  (zae (zaI (i := 3) sc_law_list.nd rfl (Or.inl rfl) (zbr (zaa (zaQ zab) zab)))
  (zae (zcx PassesOwn.never rfl (zbl rfl B.range_ (zaa (pv 1) zab)) (zas (i := 4) sc_law_list.nd rfl (Or.inl rfl)) (zae (zaI (i := 5) sc_law_list.nd rfl (Or.inl rfl) (za2 zfo (zau G_law_draw (hr.mono (by decide)) rfl (zaa (pv 0) (zaa zac zab))) zac (zaq _)))
  (zae (zaI (i := 6) sc_law_list.nd rfl (Or.inl rfl) (zaF zaw (pv 3) (zau G_law_draw (hr.mono (by decide)) rfl (zaa (pv 0) (zaa (zai zat rfl B.len_ zaY (zaa (pv 3) zab)) zab))) (fun _ _ => rfl)))
  (zae (zaI (i := 7) sc_law_list.nd rfl (Or.inl rfl) (zcy (zaN (pv 5)) (zau G_law_like (hr.mono (by decide)) rfl (zaa (pv 0) (zaa (pv 6) zab))) (zau G_law_wish (hr.mono (by decide)) rfl (zaa (pv 0) (zaa (pv 2) zab)))))
  (zaf (zbK (zdi PySem.F.plainAttrs_list PySem.F.slot_list_insert PySem.F.type_list_insert zhm (pv 3) (zaa (zau G_law_draw (hr.mono (by decide)) rfl (zaa (pv 0) (zaa (zaC zbs (zai zat rfl B.len_ zaY (zaa (pv 3) zab)) zac) zab))) (zaa (pv 7) zab)))))))))
  (zaf (zak (zcy (zan zfn (zau G_law_draw (hr.mono (by decide)) rfl (zaa (pv 0) (zaa zac zab))) zac (zaq _)) (zbM zfe (pv 3) (zcp (zau G_law_draw (hr.mono (by decide)) rfl (zaa (pv 0) (zaa zac zab)))) zcq) (zbr zab)))))))), ?_⟩
 refine ⟨_, rfl, b, g, l, n, 6, rfl, Bg, by omega, by decide, by decide, fun c1 H1 c10 c11 B1 S1 => ?_⟩
 refine ⟨_, rfl, b, g, l, _, 41, rfl, B1, by omega, by decide, by decide, fun c2 H2 c20 c21 B2 S2 => ?_⟩
 refine ⟨_, rfl, b, g, l, _, 200, rfl, B2, by omega, by decide, by decide, fun c3 H3 c30 c31 B3 S3 => ?_⟩
 have S03 := S1.trans (S2.trans S3)
 refine ⟨zq3, fun p1 hp1 => ?_⟩
 have s4 := zag hp1 (.lst [V.int c1, V.int c2, V.int c3])
 have e4 : (upd H3 p1 (.lst [V.int c1, V.int c2, V.int c3])) p1 = some (.lst [V.int c1, V.int c2, V.int c3]) := zad
 obtain ⟨pb, pg, _⟩ := B3.free hp1
 have B4 := B3.same s4
 generalize upd H3 p1 (.lst [V.int c1, V.int c2, V.int c3]) = H4 at *
 refine ⟨(by show 5 ≤ sizeLine; decide), fun p2 hp2 => ?_⟩
 have s5 := zag hp2 (.lst [V.int 0, V.int 1, V.int 0, V.int 1, V.int 2])
 have e5 : (upd H4 p2 (.lst [V.int 0, V.int 1, V.int 0, V.int 1, V.int 2])) p2 = some (.lst [V.int 0, V.int 1, V.int 0, V.int 1, V.int 2]) := zad
 obtain ⟨pb2, pg2, _⟩ := B4.free hp2
 have B5 := B4.same s5
 have e4 := s5 _ _ e4
 generalize upd H4 p2 (.lst [V.int 0, V.int 1, V.int 0, V.int 1, V.int 2]) = H5 at *
 refine ⟨_, rfl, b, g, l, _, 5, rfl, B5, by omega, by decide, by decide, fun c4 H6 c40 c41 B6 S6 => ?_⟩
 have e4 := S6 _ _ e4 pb pg
 have e5 := S6 _ _ e5 pb2 pg2
 have S06 := (S03.trans (s4.trans s5).sameB).trans S6
 obtain ⟨i4, h4, hi4⟩ : ∃ i4 : Int, atI [V.int 0, V.int 1, V.int 0, V.int 1, V.int 2] c4 = some (.int i4) ∧ (i4 = 0 ∨ i4 = 1 ∨ i4 = 2) := by
  have : c4 = 0 ∨ c4 = 1 ∨ c4 = 2 ∨ c4 = 3 ∨ c4 = 4 := by omega
  rcases this with rfl | rfl | rfl | rfl | rfl
  · exact ⟨0, rfl, by decide⟩
  · exact ⟨1, rfl, by decide⟩
  · exact ⟨0, rfl, by decide⟩
  · exact ⟨1, rfl, by decide⟩
  · exact ⟨2, rfl, by decide⟩
 obtain ⟨M, hM, M0, M1⟩ : ∃ M : Int, atI [V.int c1, V.int c2, V.int c3] i4 = some (.int M) ∧ 0 ≤ M ∧ M < 200 := by
  rcases hi4 with rfl | rfl | rfl
  · exact ⟨c1, rfl, by omega, by omega⟩
  · exact ⟨c2, rfl, by omega, by omega⟩
  · exact ⟨c3, rfl, by omega, by omega⟩
 refine ⟨p2, _, _, _, rfl, rfl, SqL.of e5, h4, p1, _, _, _, rfl, rfl, SqL.of e4, hM, ?_⟩
 refine ⟨_, rfl, b, g, l, _, 6, rfl, B6, by omega, by decide, by decide, fun fa fs H7 nfa efa fasc fok flen B7 S7 => ?_⟩
 obtain ⟨fb, fg, _⟩ := B6.free nfa
 have FA : FieldsAt H7 b g fa fs := ⟨efa, fb, fg, by omega, fok, fasc⟩
 have S07 := S06.trans S7
 refine ⟨(by show 0 ≤ sizeLine; decide), fun t0 ht0 => ?_⟩
 have s8 := zag ht0 (.tup [])
 have e8 : (upd H7 t0 (.tup [])) t0 = some (.tup []) := zad
 have FA8 := FA.sameB s8.sameB
 have B8 := B7.same s8
 have S08 := S07.trans s8.sameB
 generalize upd H7 t0 (.tup []) = H8 at *
 refine ⟨(by show 1 ≤ sizeLine; decide), fun r hr' => ?_⟩
 have s9 := zag hr' (.lst [V.ref t0])
 have e9 : (upd H8 r (.lst [V.ref t0])) r = some (.lst [V.ref t0]) := zad
 obtain ⟨rb, rg, rl⟩ := B8.free hr'
 have nr : H r = none := S08.back B8 r hr'
 have rf : r ≠ fa := (zao FA8.at' hr').symm
 have e8 := s9 _ _ e8
 have FA9 := FA8.sameB s9.sameB
 have B9 := B8.same s9
 have S09 := S08.trans s9.sameB
 generalize upd H8 r (.lst [V.ref t0]) = H9 at *
 obtain ⟨N, eN, N0, N1⟩ : ∃ N : Nat, M = (N : Int) ∧ 0 ≤ N ∧ N < 200 := ⟨M.toNat, by omega, by omega, by omega⟩
 subst eN
 refine ⟨_, rfl, _, rfl, by omega, by omega, zds (lo := 0) (n := N) (fun i σ H' => (∃ y5 y6 y7 y8, σ = [some (.ref b), some (.int (N : Int)), some (.ref fa), some (.ref r), y5, y6, y7, y8]) ∧ SameB b g H H' ∧ Bag H' b g l (n + 1000 + 200 * i) ∧ FieldsAt H' b g fa fs ∧
  ∃ ws : List (Addr × List WP), H' r = some (.lst (ws.map fun x => V.ref x.1)) ∧ ws.length = i + 1 ∧ ∀ x ∈ ws, WishAt H' x.1 x.2 ∧ WDrawn x.2) ?_ ?_ ?_⟩
 · refine ⟨⟨none, none, none, none, rfl⟩, S09, B9.mono (by omega), FA9, [(t0, [])], e9, rfl, fun x hx => ?_⟩
   rw [List.mem_singleton.mp hx]
   exact ⟨⟨[], rfl, e8, fun p hp => by simp at hp⟩, ⟨by simp, fun p hp => by simp at hp, by simp⟩⟩
 · rintro i σ K1 hi ⟨⟨y5, y6, y7, y8, rfl⟩, T1, C1, F1, ws, f1, lw, g1⟩
   refine ⟨_, rfl, b, g, l, _, 3, rfl, C1, by omega, by decide, by decide, fun d1 K2 d10 d11 C2 T2 => ?_⟩
   have f2 := T2 _ _ f1 rb rg
   have F2 := F1.sameB T2
   have g2 : ∀ x ∈ ws, WishAt K2 x.1 x.2 ∧ WDrawn x.2 := fun x hx => ⟨(g1 x hx).1.sameB C1 T2, (g1 x hx).2⟩
   refine ⟨_, _, rfl, rfl, ?_⟩
   have big : ((ws.map fun x => V.ref x.1).length : Int) < 2 ^ 500 := by
    have : (1000 : Int) < 2 ^ 500 := by decide
    rw [List.length_map]
    omega
   refine ⟨_, rfl, _, rfl, _, rfl, r, _, rfl, .inl (SqL.of f2), b, g, l, _, _, rfl, C2, by omega, by rw [List.length_map]; omega, big, fun d2 K3 d20 d21 C3 T3 => ?_⟩
   rw [List.length_map] at d21
   have f3 := T3 _ _ f2 rb rg
   have F3 := F2.sameB T3
   have g3 : ∀ x ∈ ws, WishAt K3 x.1 x.2 ∧ WDrawn x.2 := fun x hx => ⟨(g2 x hx).1.sameB C2 T3, (g2 x hx).2⟩
   obtain ⟨j, rfl⟩ : ∃ j : Nat, d2 = (j : Int) := ⟨d2.toNat, by omega⟩
   obtain ⟨X1, eX⟩ : ∃ X1, ws[j]? = some X1 := ⟨ws[j]'(by omega), List.getElem?_eq_getElem (by omega)⟩
   have hX : atI (ws.map fun x => V.ref x.1) (j : Int) = some (V.ref X1.1) := za4 (by rw [List.getElem?_map, eX]; rfl)
   obtain ⟨x1, x2⟩ := g3 X1 (List.mem_of_getElem? eX)
   refine ⟨r, _, _, _, rfl, rfl, SqL.of f3, hX, ?_⟩
   have T13 := T1.trans (T2.trans T3)
   have go : ∀ (wr : Addr) (w : List WP) (K4 : Hp) (m : Int), WishAt K4 wr w → WDrawn w → Bag K4 b g l m → m ≤ n + 1000 + 200 * i + 150 → SameB b g K3 K4 → ∀ (D : Ends) (tb : TS), True → ∀ R : Prop, ((∀ (K5 : Hp) (d3 : Int), 0 ≤ d3 → d3 < ws.length + 1 → Bag K5 b g l (n + 1000 + 200 * i + 160) → SameB b g K3 K5 → WishAt K5 wr w → R) → R) := fun wr w K4 m W4 D4 C4 hm T4 D tb _ R h => h K4 0 (by omega) (by omega) (C4.mono (by omega)) T4 W4
   have fin : ∀ (wr : Addr) (w : List WP) (K4 K5 : Hp) (d3 : Int), WishAt K4 wr w → WDrawn w → 0 ≤ d3 → d3 < ws.length + 1 → Bag K4 b g l (n + 1000 + 200 * i + 150) → SameB b g K3 K4 → Bag K5 b g l (n + 1000 + 200 * i + 160) → SameB b g K4 K5 →
    ∃ (xs : List V) (k : Nat), d3 = (k : Int) ∧ K5 r = some (.lst xs) ∧ k ≤ xs.length ∧ xs.length < sizeLine ∧ (SameB b g H (upd K5 r (.lst (xs.take k ++ V.ref wr :: xs.drop k))) ∧ Bag (upd K5 r (.lst (xs.take k ++ V.ref wr :: xs.drop k))) b g l (n + 1000 + 200 * ((i + 1 : Nat) : Int)) ∧ FieldsAt (upd K5 r (.lst (xs.take k ++ V.ref wr :: xs.drop k))) b g fa fs ∧
    ∃ ws' : List (Addr × List WP), (upd K5 r (.lst (xs.take k ++ V.ref wr :: xs.drop k))) r = some (.lst (ws'.map fun x => V.ref x.1)) ∧ ws'.length = i + 1 + 1 ∧ ∀ x ∈ ws', WishAt (upd K5 r (.lst (xs.take k ++ V.ref wr :: xs.drop k))) x.1 x.2 ∧ WDrawn x.2) := by
    intro wr w K4 K5 d3 W4 D4 d30 d31 C4 T4 C5 T5
    have T35 := T4.trans T5
    have f5 := T35 _ _ f3 rb rg
    obtain ⟨k, rfl⟩ : ∃ k : Nat, d3 = (k : Int) := ⟨d3.toNat, by omega⟩
    have hk : k ≤ ws.length := by omega
    have F5 := F3.sameB T35
    refine ⟨_, k, rfl, f5, by rw [List.length_map]; exact hk, by rw [List.length_map]; exact zaA (by omega), (T13.trans T35).off nr, (C5.off rb rg rl).mono (by omega), ⟨by rw [zal rf.symm]; exact F5.at', F5.nb, F5.ng, F5.len, F5.ok, F5.asc⟩, ws.take k ++ (wr, w) :: ws.drop k, ?_, ?_, ?_⟩
    · rw [zad, List.map_append, List.map_cons, List.map_take, List.map_drop]
    · rw [List.length_append, List.length_cons, List.length_take, List.length_drop]
      omega
    · intro x hx
      have tl := zdN (o := .lst ((ws.map fun x => V.ref x.1).take k ++ V.ref wr :: (ws.map fun x => V.ref x.1).drop k)) f5
      have old : ∀ x ∈ ws, WishAt (upd K5 r (.lst ((ws.map fun x => V.ref x.1).take k ++ V.ref wr :: (ws.map fun x => V.ref x.1).drop k))) x.1 x.2 ∧ WDrawn x.2 := fun x hx => ⟨((g3 x hx).1.sameB C3 T35).keep tl, (g3 x hx).2⟩
      rcases List.mem_append.mp hx with z | z
      · exact old x (List.mem_of_mem_take z)
      · rcases List.mem_cons.mp z with rfl | z
        · exact ⟨(W4.sameB C4 T5).keep tl, D4⟩
        · exact old x (List.mem_of_mem_drop z)
   refine ⟨_, rfl, _, rfl, ite2 (fun _ => ?_) (fun _ => ?_)⟩
   · refine ⟨_, rfl, _, rfl, b, g, l, _, X1.1, X1.2, rfl, C3, by omega, x1, x2, fun wr w K4 W4 D4 C4 T4 => ?_⟩
     have f4 := T4 _ _ f3 rb rg
     have big2 : ((ws.map fun x => V.ref x.1).length : Int) + 1 < 2 ^ 500 := by
      have : (1000 : Int) < 2 ^ 500 := by decide
      rw [List.length_map]
      omega
     refine ⟨_, rfl, .inl ⟨rfl, _, SqL.of f4⟩, _, rfl, _, rfl, r, _, rfl, .inl (SqL.of f4), _, _, rfl, rfl, b, g, l, _, _, rfl, C4, by omega, by rw [List.length_map]; omega, big2, fun d3 K5 d30 d31 C5 T5 => ?_⟩
     rw [List.length_map] at d31
     obtain ⟨xs, k, rfl, h1, h2, h3, h5⟩ := fin wr w K4 K5 d3 W4 D4 d30 (by omega) (C4.mono (by omega)) T4 (C5.mono (by omega)) T5
     exact ⟨_, rfl, r, xs, k, _, rfl, rfl, h1, h2, h3, ⟨_, _, _, _, rfl⟩, h5⟩
   · refine ⟨_, rfl, _, rfl, b, g, l, fa, _, fs, rfl, C3, by omega, F3, fun wr w K4 W4 D4 C4 T4 => ?_⟩
     have f4 := T4 _ _ f3 rb rg
     have big2 : ((ws.map fun x => V.ref x.1).length : Int) + 1 < 2 ^ 500 := by
      have : (1000 : Int) < 2 ^ 500 := by decide
      rw [List.length_map]
      omega
     refine ⟨_, rfl, .inl ⟨rfl, _, SqL.of f4⟩, _, rfl, _, rfl, r, _, rfl, .inl (SqL.of f4), _, _, rfl, rfl, b, g, l, _, _, rfl, C4, by omega, by rw [List.length_map]; omega, big2, fun d3 K5 d30 d31 C5 T5 => ?_⟩
     rw [List.length_map] at d31
     obtain ⟨xs, k, rfl, h1, h2, h3, h5⟩ := fin wr w K4 K5 d3 W4 D4 d30 (by omega) (C4.mono (by omega)) T4 (C5.mono (by omega)) T5
     exact ⟨_, rfl, r, xs, k, _, rfl, rfl, h1, h2, h3, ⟨_, _, _, _, rfl⟩, h5⟩
 · rintro σ K1 ⟨⟨y5, y6, y7, y8, rfl⟩, T1, C1, F1, ws, f1, lw, g1⟩
   refine ⟨_, rfl, b, g, l, _, 8, rfl, C1, by omega, by decide, by decide, fun d1 K2 d10 d11 C2 T2 => ?_⟩
   have T12 := T1.trans T2
   have f2 := T2 _ _ f1 rb rg
   have g2 : ∀ x ∈ ws, WishAt K2 x.1 x.2 ∧ WDrawn x.2 := fun x hx => ⟨(g1 x hx).1.sameB C1 T2, (g1 x hx).2⟩
   refine ⟨_, _, rfl, rfl, _, rfl, ite2 (fun _ => ?_) (fun _ => ?_)⟩
   · refine ⟨_, rfl, _, rfl, b, g, l, _, 2, rfl, C2, by omega, by decide, by decide, fun d2 K3 d20 d21 C3 T3 => ?_⟩
     have f3 := T3 _ _ f2 rb rg
     have g3 : ∀ x ∈ ws, WishAt K3 x.1 x.2 ∧ WDrawn x.2 := fun x hx => ⟨(g2 x hx).1.sameB C2 T3, (g2 x hx).2⟩
     refine ⟨_, rfl, r, _, rfl, SqL.of f3, fun p hp => ?_⟩
     obtain ⟨rs, rsub, er⟩ := zgb (fun x : Addr × List WP => V.ref x.1) ws (some d2) none
     rw [er]
     have s4 := zag hp (.lst (rs.map fun x => V.ref x.1))
     refine q p rs _ ((T12.trans T3).back C3 p hp) ⟨zad, fun x hx => ⟨(g3 x (rsub.subset hx)).1.same s4, (g3 x (rsub.subset hx)).2.wok⟩, ?_⟩ ((C3.same s4).mono (by omega)) ((T12.trans T3).trans s4.sameB)
     have := rsub.length_le
     omega
   · refine ⟨(by show 0 ≤ sizeLine; decide), fun p hp => ?_⟩
     have s4 := zag hp (.lst [])
     exact q p [] _ (T12.back C2 p hp) ⟨zad, fun x hx => by simp at hx, by simp⟩ ((C2.same s4).mono (by omega)) (T12.trans s4.sameB)
theorem zeG (F : Fun K "_law_right" "_law_right" zbG f fd) (G_in_order : Γ12 P w K mg base) (G_law_same : Γ19 P w K mg base) (G_law_ahead : Γ28 P w K mg base) (G_law_is_made : Γ25 P w K mg base) : FnOk P w K mg base CX0 12 f fd ["wishes"] (zdQ) := by
 refine F.ok sc_law_right (fun vs H Q E h => ?_) (fun cdv A outer s H vs Q E hr h => ?_)
 · obtain ⟨l, ws, rfl, hw, q⟩ := h
   rfl
 obtain ⟨l, ws, rfl, hw, q⟩ := h
 refine ⟨_, (zae (zaI (i := 1) sc_law_right.nd rfl (Or.inl rfl) (zeA zeR rfl B.list_ zcs (zaa (pv 0) zab)))
  (zae (zaI (i := 2) sc_law_right.nd rfl (Or.inl rfl) (zau G_in_order (hr.mono (by decide)) rfl (zaa (pv 1) zab)))
  (zae (zaK (PW.pt (zbX (zaR (zaN (zai (zam (n := "")) rfl B.isinstance_ zaj (zaa (pv 2) (zaa (zaD (v := .ty "list") rfl B.list_ zcs rfl) zab))))) (zbX (zan zdk (zai zat rfl B.len_ zaY (zaa (pv 2) zab)) (zai zat rfl B.len_ zaY (zaa (pv 0) zab)) (zaq _)) (zbp (zaR (zaN (zau G_law_same (hr.mono (by decide)) rfl (zaa (pv 1) (zaa (pv 0) zab))))))))) (zaf (zak zbB)) zar)
  (zae (zcx PassesOwn.never rfl (zbl rfl B.range_ (zaa (zai zat rfl B.len_ zaY (zaa (pv 2) zab)) zab)) (zas (i := 3) sc_law_right.nd rfl (Or.inl rfl)) (zae (zaK (PW.pt (zbX (zaR (zaN (zau G_law_is_made (hr.mono (by decide)) rfl (zaa (zaF zaw (pv 2) (pv 3) (fun _ _ => rfl)) (zaa zac zab))))) (zbp (zan zdk (zdi PySem.F.plainAttrs_list PySem.F.slot_list_count PySem.F.type_list_count (zf2 (zbJ hr)) (pv 2) (zaa (zaF zaw (pv 2) (pv 3) (fun _ _ => rfl)) zab)) (zdi PySem.F.plainAttrs_list PySem.F.slot_list_count PySem.F.type_list_count (zf2 (zbJ hr)) (pv 0) (zaa (zaF zaw (pv 2) (pv 3) (fun _ _ => rfl)) zab)) (zaq _))))) (zaf (zak zbB)) zar)
  (zaf (zaK (PW.pt (zcw (zan zfo (pv 3) zac (zaq _)) (zbY (zaN (zau G_law_ahead (hr.mono (by decide)) rfl (zaa (zaF zaw (pv 2) (pv 3) (fun _ _ => rfl)) (zaa (zaF zaw (pv 2) (zaC zbZ (pv 3) zac) (fun _ _ => rfl)) zab))))))) (zaf (zak zbB)) zar))))
  (zae (zbK (zdi PySem.F.plainAttrs_list PySem.F.slot_list_append PySem.F.type_list_append zbD (pv 2) (zaa (zaQ zab) zab)))
  (zae (zaK (zaR (zaN (zau G_law_same (hr.mono (by decide)) rfl (zaa (pv 1) (zaa (pv 0) zab))))) (zaf (zak zbB)) zar)
  (zae (zbK (zjI PySem.F.plainAttrs_list PySem.F.slot_list_clear PySem.F.type_list_clear zik (pv 2)))
  (zaf (zak (zau G_law_same (hr.mono (by decide)) rfl (zaa (pv 1) (zaa (pv 0) zab)))))))))))), ?_⟩
 refine ⟨_, rfl, l, _, rfl, .inl (SqL.of hw.at'), fun hl hhl => ?_⟩
 have s1 := zag hhl (.lst (ws.map fun x => V.ref x.1))
 have e1 : (upd H hl (.lst (ws.map fun x => V.ref x.1))) hl = some (.lst (ws.map fun x => V.ref x.1)) := zad
 have w1 := hw.same s1
 generalize upd H hl (.lst (ws.map fun x => V.ref x.1)) = H1 at *
 have W1 : WsAt H1 hl ws := ⟨e1, w1.ok, w1.len⟩
 refine ⟨_, rfl, hl, ws, rfl, W1, fun r qs H2 s2 nr pm srt e2 => ?_⟩
 have w2 := w1.same s2
 have W2 := W1.same s2
 have lq : qs.length = ws.length := pm.length_eq
 have R2 : WsAt H2 r qs := ⟨e2, fun x hx => w2.ok x (pm.mem_iff.mp hx), by rw [lq]; exact hw.len⟩
 refine ⟨_, rfl, _, "list", "list", true, rfl, .lst e2, rfl, _, rfl, iteF ?_⟩
 refine ⟨_, rfl, r, _, rfl, .inl (SqL.of e2), _, rfl, l, _, rfl, .inl (SqL.of w2.at'), rfl, _, rfl, zjZ (by rw [List.length_map, List.length_map, lq]) ?_⟩
 refine ⟨_, rfl, _, rfl, 3, by decide, _, _, _, rfl, by decide, W2.repY, w2.repY, zcQ _, fun H3 s3 => ⟨_, rfl, iteF ?_⟩⟩
 have R3 := R2.same s3
 have nr1 : H1 r = none := nr
 refine ⟨_, rfl, r, _, rfl, .inl (SqL.of R3.at'), _, rfl, (by rw [List.length_map]; have := R3.len; omega), (by rw [List.length_map]; have := R3.len; omega), zds (lo := 0) (n := (qs.map fun (x : Addr × List WP) => V.ref x.1).length) (fun i σ H' => (∃ y, σ = [some (.ref l), some (.ref hl), some (.ref r), y]) ∧ Same H3 H') ⟨⟨none, rfl⟩, Same.refl _⟩ ?_ ?_⟩
 · rintro i σ H4 hi ⟨⟨y, rfl⟩, s4⟩
   rw [List.length_map] at hi
   have R4 := R3.same s4
   have w4 := (w2.same s3).same s4
   obtain ⟨X1, e1'⟩ : ∃ X1, qs[i]? = some X1 := ⟨qs[i], by simp [hi]⟩
   have hm := List.mem_of_getElem? e1'
   have hx : atI (qs.map fun x => V.ref x.1) (0 + (i : Int)) = some (.ref X1.1) := by
    rw [Int.zero_add]
    exact za4 (by rw [List.getElem?_map, e1']; rfl)
   obtain ⟨a1, a2⟩ := R4.ok X1 hm
   refine ⟨_, rfl, _, rfl, r, _, _, _, rfl, rfl, SqL.of R4.at', hx, X1.1, X1.2, rfl, a1, a2, fun H5 s5 => ⟨_, rfl, iteF ?_⟩⟩
   have R5 := R4.same s5
   have w5 := w4.same s5
   have reps : ∀ zs : List (Addr × List WP), (∀ x ∈ zs, WishAt H5 x.1 x.2 ∧ WOk x.2) → ∀ p ∈ zs.map (fun x => (x.1, dW x.2)), Rep K H5 p.2 (.ref p.1) ∧ zay p.2 ≤ 20 := by
    intro zs hz p hp
    obtain ⟨x, hx, rfl⟩ := List.mem_map.mp hp
    exact ⟨zjA (hz x hx).1, Nat.le_trans (zjk _) (by decide)⟩
   have f5 : H5 r = some (.lst ((qs.map (fun x => (x.1, dW x.2))).map fun p => V.ref p.1)) := by rw [R5.at', List.map_map]; rfl
   have g5 : H5 l = some (.lst ((ws.map (fun x => (x.1, dW x.2))).map fun p => V.ref p.1)) := by rw [w5.at', List.map_map]; rfl
   have d5 : Rep K H5 (dW X1.2) (.ref X1.1) := zjA (R5.ok X1 hm).1
   refine ⟨_, rfl, .inl ⟨rfl, _, SqL.of f5⟩, _, rfl, _, rfl, r, _, _, _, rfl, rfl, SqL.of R5.at', hx, r, _, .ref X1.1, dW X1.2, rfl, rfl, SqL.of f5, reps qs R5.ok, d5, ?_⟩
   refine ⟨_, rfl, .inl ⟨rfl, _, SqL.of g5⟩, _, rfl, _, rfl, r, _, _, _, rfl, rfl, SqL.of R5.at', hx, l, _, .ref X1.1, dW X1.2, rfl, rfl, SqL.of g5, reps ws w5.ok, d5, ?_⟩
   have cnt : ((qs.map (fun x => (x.1, dW x.2))).countP fun p => pyEq p.2 (dW X1.2)) = (ws.map (fun x => (x.1, dW x.2))).countP fun p => pyEq p.2 (dW X1.2) := (pm.map _).countP_eq _
   refine ⟨rfl, _, rfl, zjZ (by rw [cnt]) ?_⟩
   refine ⟨_, rfl, _, _, rfl, rfl, _, rfl, ite2 (fun h => ?_) (fun h => ?_)⟩
   · have i0 : 0 < i := by have := of_decide_eq_true h; omega
     obtain ⟨X0, e0⟩ : ∃ X0, qs[i - 1]? = some X0 := ⟨qs[i - 1]'(by omega), List.getElem?_eq_getElem (by omega)⟩
     have hm0 := List.mem_of_getElem? e0
     have hx0 : atI (qs.map fun x => V.ref x.1) (0 + (i : Int) - 1) = some (.ref X0.1) := by
      rw [show 0 + (i : Int) - 1 = ((i - 1 : Nat) : Int) by omega]
      exact za4 (by rw [List.getElem?_map, e0]; rfl)
     obtain ⟨b1, b2⟩ := R5.ok X0 hm0
     refine ⟨_, rfl, _, rfl, r, _, _, _, rfl, rfl, SqL.of R5.at', hx, _, rfl, _, rfl, _, _, rfl, rfl, r, _, _, _, rfl, rfl, SqL.of R5.at', hx0, X1.1, X0.1, X1.2, X0.2, rfl, (R5.ok X1 hm).1, b1, a2, b2, fun H6 s6 => ⟨_, rfl, ?_⟩⟩
     have lt := List.pairwise_iff_getElem.mp srt (i - 1) i (by omega) hi (by omega)
     rw [(List.getElem?_eq_some_iff.mp e0).2, (List.getElem?_eq_some_iff.mp e1').2, zg4] at lt
     rw [show zcF X1.2 X0.2 = false from lt]
     exact iteF ⟨⟨_, rfl⟩, s4.trans (s5.trans s6)⟩
   · exact ⟨⟨_, rfl⟩, s4.trans s5⟩
 · rintro σ H4 ⟨⟨y, rfl⟩, s4⟩
   have R4 := R3.same s4
   have w4 := (w2.same s3).same s4
   have W4 := (W2.same s3).same s4
   have t4 : Same H1 H4 := s2.trans (s3.trans s4)
   refine ⟨_, rfl, .inl ⟨rfl, _, SqL.of R4.at'⟩, (by show 0 ≤ sizeLine; decide), fun u hu => ?_⟩
   have s5 := zag hu (.tup [])
   generalize upd H4 u (.tup []) = H5 at *
   have R5 := R4.same s5
   have t5 := t4.trans s5
   refine ⟨r, _, _, rfl, rfl, R5.at', (by rw [List.length_map]; have := R5.len; exact zaA (by omega)), ?_⟩
   have off : ∀ o, Same H1 (upd H5 r o) := fun o => zcH t5 nr1
   have e6 : (upd H5 r (.lst ((qs.map fun x => V.ref x.1) ++ [V.ref u]))) r = some (.lst ((qs.map fun x => V.ref x.1) ++ [V.ref u])) := zad
   have o6 := off (.lst ((qs.map fun x => V.ref x.1) ++ [V.ref u]))
   generalize upd H5 r (.lst ((qs.map fun x => V.ref x.1) ++ [V.ref u])) = H6 at *
   refine ⟨_, rfl, _, rfl, 3, by decide, _, _, _, rfl, by decide, (W1.same o6).repY, (w1.same o6).repY, zcQ _, fun H7 s7 => ⟨_, rfl, iteF ?_⟩⟩
   have e7 := s7 _ _ e6
   have o7 := o6.trans s7
   refine ⟨_, rfl, .inl ⟨rfl, _, SqL.of e7⟩, r, _, rfl, rfl, e7, ?_⟩
   have o8 : Same H1 (upd H7 r (.lst [])) := zcH o7 nr1
   generalize upd H7 r (.lst []) = H8 at *
   exact ⟨_, rfl, _, rfl, 3, by decide, _, _, _, rfl, by decide, (W1.same o8).repY, (w1.same o8).repY, zcQ _, fun H9 s9 => q _ (s1.trans (o8.trans s9))⟩
theorem zjO (F : Fun K "law" "law" zfk f fd) (G_law_bag : Γ13 P w K mg base) (G_law_list : Γ29 P w K mg base) (G_law_right : Γ30 P w K mg base) : FnOk P w K mg base CX0 13 f fd ["script"] (zh3 K) := by
 refine F.ok sc_law (fun vs H Q E h => ?_) (fun cdv A outer s H vs Q E hr h => ?_)
 · obtain ⟨a, ns, rfl, hS, h63, q⟩ := h
   rfl
 obtain ⟨a, ns, rfl, hS, h63, q⟩ := h
 refine ⟨_, (zae (zaI (i := 1) sc_law.nd rfl (Or.inl rfl) (zau G_law_bag (hr.mono (by decide)) rfl (zaa (pv 0) zab)))
  (zae (zaI (i := 2) sc_law.nd rfl (Or.inl rfl) (zau G_law_list (hr.mono (by decide)) rfl (zaa (pv 1) zab)))
  (zae (zaI (i := 3) sc_law.nd rfl (Or.inl rfl) (zau G_law_list (hr.mono (by decide)) rfl (zaa (pv 1) zab)))
  (zae (zcx PassesOwn.never rfl (zcr (zbr (zaa (pv 2) (zaa (pv 3) (zaa (pv 2) (zaa (zjH (pv 2)) zab)))))) (zas (i := 4) sc_law.nd rfl (Or.inl rfl)) (zaf (zaK (zaR (zaN (zau G_law_right (hr.mono (by decide)) rfl (zaa (pv 4) zab)))) (zaf (zak zbB)) zar)))
  (zaf (zak zbB)))))), ?_⟩
 refine ⟨_, rfl, a, ns, rfl, hS, h63, fun b g l H1 B1 S1 nb ng => ?_⟩
 refine ⟨_, rfl, b, g, l, _, rfl, B1, by omega, fun r1 ws1 H2 n1 W1 B2 S2 => ?_⟩
 refine ⟨_, rfl, b, g, l, _, rfl, B2, by omega, fun r2 ws2 H3 n2 W2 B3 S3 => ?_⟩
 obtain ⟨x1, x2, _⟩ := B1.free n1
 have W1 := W1.sameB B2 x1 x2 S3
 refine ⟨_, rfl, _, rfl, _, rfl, _, rfl, r1, _, rfl, SqL.of W1.at', fun p hp => ?_⟩
 have s4 := zag hp (.lst (ws1.map fun x => V.ref x.1).reverse)
 have e4 : (upd H3 p (.lst (ws1.map fun x => V.ref x.1).reverse)) p = some (.lst (ws1.map fun x => V.ref x.1).reverse) := zad
 have W1 := W1.same s4
 have W2 := W2.same s4
 generalize upd H3 p (.lst (ws1.map fun x => V.ref x.1).reverse) = H4 at *
 have P4 : WsAt H4 p ws1.reverse := ⟨by rw [e4, List.map_reverse], fun x hx => W1.ok x (List.mem_reverse.mp hx), by rw [List.length_reverse]; exact W1.len⟩
 refine ⟨(by show 4 ≤ sizeLine; decide), fun t ht => ?_⟩
 have s5 := zag ht (.lst [V.ref r1, V.ref r2, V.ref r1, V.ref p])
 have e5 : (upd H4 t (.lst [V.ref r1, V.ref r2, V.ref r1, V.ref p])) t = some (.lst [V.ref r1, V.ref r2, V.ref r1, V.ref p]) := zad
 have W1 := W1.same s5
 have W2 := W2.same s5
 have P5 := P4.same s5
 generalize upd H4 t (.lst [V.ref r1, V.ref r2, V.ref r1, V.ref p]) = H5 at *
 refine ⟨t, rfl, ⟨_, SqL.of e5⟩, zc6 (K := K) (a := t) (xs := [V.ref r1, V.ref r2, V.ref r1, V.ref p]) (fun j σ H' => (∃ y, σ = [some (.ref a), some (.ref b), some (.ref r1), some (.ref r2), y]) ∧ Same H5 H') ⟨⟨none, rfl⟩, Same.refl _⟩ (fun j σ H' _ ⟨_, z⟩ => SqL.of (z _ _ e5)) ?_ ?_⟩
 · rintro j x σ H6 hx ⟨⟨y, rfl⟩, s6⟩
   obtain ⟨u, zs, rfl, Z⟩ : ∃ (u : Addr) (zs : List (Addr × List WP)), x = .ref u ∧ WsAt H6 u zs := by
    match j, hx with
    | 0, hx => exact ⟨r1, ws1, (Option.some.inj hx).symm, W1.same s6⟩
    | 1, hx => exact ⟨r2, ws2, (Option.some.inj hx).symm, W2.same s6⟩
    | 2, hx => exact ⟨r1, ws1, (Option.some.inj hx).symm, W1.same s6⟩
    | 3, hx => exact ⟨p, _, (Option.some.inj hx).symm, P5.same s6⟩
    | k + 4, hx => simp at hx
   exact ⟨_, rfl, u, zs, rfl, Z, fun H7 s7 => ⟨_, rfl, iteF ⟨⟨_, rfl⟩, s6.trans s7⟩⟩⟩
 · rintro σ H6 ⟨_, s6⟩
   exact q H6
end
open PySem.W (nsIn mg_of mg_none_of fnOf keepIn codeIn)
abbrev dF (n : Str) (s : Stmt) := fnOf n n (zb3 s) (zbQ s) (zah s) .none
theorem bn1 {K : PySem.W.Frag} {x : Str} {st : Stmt} {f : Addr} {fd : FuncData} {p0 : Str} (F : Fun K x x st f fd) (h : ∀ (kV doc pm : Value) (an : Option Addr) (cdv ct u0 : Value), bindArgs (fnOf x x (zb3 st) (zbQ st) (zah st) .none kV doc pm an cdv ct) ⟨[u0], []⟩ = pure [(p0, u0)] := by intros; rfl) : Binds K fd [p0] [] :=
 F.binds fun kV doc pm an cdv ct us hl => match us, hl with | [u0], _ => h kV doc pm an cdv ct u0
theorem bn2 {K : PySem.W.Frag} {x : Str} {st : Stmt} {f : Addr} {fd : FuncData} {p0 p1 : Str} (F : Fun K x x st f fd) (h : ∀ (kV doc pm : Value) (an : Option Addr) (cdv ct u0 u1 : Value), bindArgs (fnOf x x (zb3 st) (zbQ st) (zah st) .none kV doc pm an cdv ct) ⟨[u0, u1], []⟩ = pure [(p0, u0), (p1, u1)] := by intros; rfl) : Binds K fd [p0, p1] [] :=
 F.binds fun kV doc pm an cdv ct us hl => match us, hl with | [u0, u1], _ => h kV doc pm an cdv ct u0 u1
theorem all_mk {l : PySem.W.OpenLaw} {w : World} {K : PySem.W.Frag} {h : Heap} {mg : Str → Option Value} {fa f1 f2 f3 f4 f5 f6 f7 f8 f9 f10 f11 f12 f13 f14 f15 f16 f17 f18 f19 f20 f21 f22 f23 f24 f25 f26 f27 f28 f29 f30 f31 f32 : Addr} (X : K.In h) (G : h.Ns mainGlobals mg) (hfa : mg "law" = some (.ref fa))
 {od1 od2 od3 od4 od5 od6 od7 od8 od9 od10 od11 od12 od13 od14 od15 od16 od17 od18 od19 od20 od21 od22 od23 od24 od25 od26 od27 od28 od29 od30 od31 od32 an1 an2 an3 an4 an5 an6 an7 an8 an9 an10 an11 an12 an13 an14 an15 an16 an17 an18 an19 an20 an21 an22 an23 an24 an25 an26 an27 an28 an29 an30 an31 an32 : Option Addr} {sl1 sl2 sl3 sl4 sl5 sl6 sl7 sl8 sl9 sl10 sl11 sl12 sl13 sl14 sl15 sl16 sl17 sl18 sl19 sl20 sl21 sl22 sl23 sl24 sl25 sl26 sl27 sl28 sl29 sl30 sl31 sl32 : Array (Option Value)} {oc1 oc2 oc3 oc4 oc5 oc6 oc7 oc8 oc9 oc10 oc11 oc12 oc13 oc14 oc15 oc16 oc17 oc18 oc19 oc20 oc21 oc22 oc23 oc24 oc25 oc26 oc27 oc28 oc29 oc30 oc31 oc32 kV1 kV2 kV3 kV4 kV5 kV6 kV7 kV8 kV9 kV10 kV11 kV12 kV13 kV14 kV15 kV16 kV17 kV18 kV19 kV20 kV21 kV22 kV23 kV24 kV25 kV26 kV27 kV28 kV29 kV30 kV31 kV32 dc1 dc2 dc3 dc4 dc5 dc6 dc7 dc8 dc9 dc10 dc11 dc12 dc13 dc14 dc15 dc16 dc17 dc18 dc19 dc20 dc21 dc22 dc23 dc24 dc25 dc26 dc27 dc28 dc29 dc30 dc31 dc32 pm1 pm2 pm3 pm4 pm5 pm6 pm7 pm8 pm9 pm10 pm11 pm12 pm13 pm14 pm15 pm16 pm17 pm18 pm19 pm20 pm21 pm22 pm23 pm24 pm25 pm26 pm27 pm28 pm29 pm30 pm31 pm32 cd1 cd2 cd3 cd4 cd5 cd6 cd7 cd8 cd9 cd10 cd11 cd12 cd13 cd14 cd15 cd16 cd17 cd18 cd19 cd20 cd21 cd22 cd23 cd24 cd25 cd26 cd27 cd28 cd29 cd30 cd31 cd32 ct1 ct2 ct3 ct4 ct5 ct6 ct7 ct8 ct9 ct10 ct11 ct12 ct13 ct14 ct15 ct16 ct17 ct18 ct19 ct20 ct21 ct22 ct23 ct24 ct25 ct26 ct27 ct28 ct29 ct30 ct31 ct32 : Value}
 (a1 : nsIn K mainGlobals "is_whole" = some (some (.ref f1))) (l1 : K.lookup f1 = some ⟨oc1, od1, .func (dF "is_whole" zcd kV1 dc1 pm1 an1 cd1 ct1), sl1⟩) (c1 : codeIn K cd1 "is_whole" = true) (k1 : keepIn K (.ref f1) = true)
 (a2 : nsIn K mainGlobals "is_end" = some (some (.ref f2))) (l2 : K.lookup f2 = some ⟨oc2, od2, .func (dF "is_end" zc5 kV2 dc2 pm2 an2 cd2 ct2), sl2⟩) (c2 : codeIn K cd2 "is_end" = true) (k2 : keepIn K (.ref f2) = true)
 (a3 : nsIn K mainGlobals "is_span" = some (some (.ref f3))) (l3 : K.lookup f3 = some ⟨oc3, od3, .func (dF "is_span" zcu kV3 dc3 pm3 an3 cd3 ct3), sl3⟩) (c3 : codeIn K cd3 "is_span" = true) (k3 : keepIn K (.ref f3) = true)
 (a4 : nsIn K mainGlobals "is_field" = some (some (.ref f4))) (l4 : K.lookup f4 = some ⟨oc4, od4, .func (dF "is_field" zbz kV4 dc4 pm4 an4 cd4 ct4), sl4⟩) (c4 : codeIn K cd4 "is_field" = true) (k4 : keepIn K (.ref f4) = true)
 (a5 : nsIn K mainGlobals "is_wish_part" = some (some (.ref f5))) (l5 : K.lookup f5 = some ⟨oc5, od5, .func (dF "is_wish_part" za6 kV5 dc5 pm5 an5 cd5 ct5), sl5⟩) (c5 : codeIn K cd5 "is_wish_part" = true) (k5 : keepIn K (.ref f5) = true)
 (a6 : nsIn K mainGlobals "fields_ascend" = some (some (.ref f6))) (l6 : K.lookup f6 = some ⟨oc6, od6, .func (dF "fields_ascend" zaP kV6 dc6 pm6 an6 cd6 ct6), sl6⟩) (c6 : codeIn K cd6 "fields_ascend" = true) (k6 : keepIn K (.ref f6) = true)
 (a7 : nsIn K mainGlobals "is_wish" = some (some (.ref f7))) (l7 : K.lookup f7 = some ⟨oc7, od7, .func (dF "is_wish" zbW kV7 dc7 pm7 an7 cd7 ct7), sl7⟩) (c7 : codeIn K cd7 "is_wish" = true) (k7 : keepIn K (.ref f7) = true)
 (a8 : nsIn K mainGlobals "are_wishes" = some (some (.ref f8))) (l8 : K.lookup f8 = some ⟨oc8, od8, .func (dF "are_wishes" za9 kV8 dc8 pm8 an8 cd8 ct8), sl8⟩) (c8 : codeIn K cd8 "are_wishes" = true) (k8 : keepIn K (.ref f8) = true)
 (a9 : nsIn K mainGlobals "check_wishes" = some (some (.ref f9))) (l9 : K.lookup f9 = some ⟨oc9, od9, .func (dF "check_wishes" za7 kV9 dc9 pm9 an9 cd9 ct9), sl9⟩) (c9 : codeIn K cd9 "check_wishes" = true) (k9 : keepIn K (.ref f9) = true)
 (a10 : nsIn K mainGlobals "rank_of_low" = some (some (.ref f10))) (l10 : K.lookup f10 = some ⟨oc10, od10, .func (dF "rank_of_low" zbc kV10 dc10 pm10 an10 cd10 ct10), sl10⟩) (c10 : codeIn K cd10 "rank_of_low" = true) (k10 : keepIn K (.ref f10) = true)
 (a11 : nsIn K mainGlobals "rank_of_high" = some (some (.ref f11))) (l11 : K.lookup f11 = some ⟨oc11, od11, .func (dF "rank_of_high" za5 kV11 dc11 pm11 an11 cd11 ct11), sl11⟩) (c11 : codeIn K cd11 "rank_of_high" = true) (k11 : keepIn K (.ref f11) = true)
 (a12 : nsIn K mainGlobals "rank" = some (some (.ref f12))) (l12 : K.lookup f12 = some ⟨oc12, od12, .func (dF "rank" zeu kV12 dc12 pm12 an12 cd12 ct12), sl12⟩) (c12 : codeIn K cd12 "rank" = true) (k12 : keepIn K (.ref f12) = true)
 (a13 : nsIn K mainGlobals "in_order" = some (some (.ref f13))) (l13 : K.lookup f13 = some ⟨oc13, od13, .func (dF "in_order" zce kV13 dc13 pm13 an13 cd13 ct13), sl13⟩) (c13 : codeIn K cd13 "in_order" = true) (k13 : keepIn K (.ref f13) = true)
 (a14 : nsIn K mainGlobals "_law_bag" = some (some (.ref f14))) (l14 : K.lookup f14 = some ⟨oc14, od14, .func (dF "_law_bag" zby kV14 dc14 pm14 an14 cd14 ct14), sl14⟩) (c14 : codeIn K cd14 "_law_bag" = true) (k14 : keepIn K (.ref f14) = true)
 (a15 : nsIn K mainGlobals "_law_draw" = some (some (.ref f15))) (l15 : K.lookup f15 = some ⟨oc15, od15, .func (dF "_law_draw" zcc kV15 dc15 pm15 an15 cd15 ct15), sl15⟩) (c15 : codeIn K cd15 "_law_draw" = true) (k15 : keepIn K (.ref f15) = true)
 (a16 : nsIn K mainGlobals "_law_number" = some (some (.ref f16))) (l16 : K.lookup f16 = some ⟨oc16, od16, .func (dF "_law_number" zbn kV16 dc16 pm16 an16 cd16 ct16), sl16⟩) (c16 : codeIn K cd16 "_law_number" = true) (k16 : keepIn K (.ref f16) = true)
 (a17 : nsIn K mainGlobals "_law_held" = some (some (.ref f17))) (l17 : K.lookup f17 = some ⟨oc17, od17, .func (dF "_law_held" zcb kV17 dc17 pm17 an17 cd17 ct17), sl17⟩) (c17 : codeIn K cd17 "_law_held" = true) (k17 : keepIn K (.ref f17) = true)
 (a18 : nsIn K mainGlobals "_law_span" = some (some (.ref f18))) (l18 : K.lookup f18 = some ⟨oc18, od18, .func (dF "_law_span" zb8 kV18 dc18 pm18 an18 cd18 ct18), sl18⟩) (c18 : codeIn K cd18 "_law_span" = true) (k18 : keepIn K (.ref f18) = true)
 (a19 : nsIn K mainGlobals "_law_whole" = some (some (.ref f19))) (l19 : K.lookup f19 = some ⟨oc19, od19, .func (dF "_law_whole" zbF kV19 dc19 pm19 an19 cd19 ct19), sl19⟩) (c19 : codeIn K cd19 "_law_whole" = true) (k19 : keepIn K (.ref f19) = true)
 (a20 : nsIn K mainGlobals "_law_same" = some (some (.ref f20))) (l20 : K.lookup f20 = some ⟨oc20, od20, .func (dF "_law_same" zbx kV20 dc20 pm20 an20 cd20 ct20), sl20⟩) (c20 : codeIn K cd20 "_law_same" = true) (k20 : keepIn K (.ref f20) = true)
 (a21 : nsIn K mainGlobals "_law_field" = some (some (.ref f21))) (l21 : K.lookup f21 = some ⟨oc21, od21, .func (dF "_law_field" za1 kV21 dc21 pm21 an21 cd21 ct21), sl21⟩) (c21 : codeIn K cd21 "_law_field" = true) (k21 : keepIn K (.ref f21) = true)
 (a22 : nsIn K mainGlobals "_law_fields" = some (some (.ref f22))) (l22 : K.lookup f22 = some ⟨oc22, od22, .func (dF "_law_fields" za8 kV22 dc22 pm22 an22 cd22 ct22), sl22⟩) (c22 : codeIn K cd22 "_law_fields" = true) (k22 : keepIn K (.ref f22) = true)
 (a23 : nsIn K mainGlobals "_law_moved" = some (some (.ref f23))) (l23 : K.lookup f23 = some ⟨oc23, od23, .func (dF "_law_moved" zbH kV23 dc23 pm23 an23 cd23 ct23), sl23⟩) (c23 : codeIn K cd23 "_law_moved" = true) (k23 : keepIn K (.ref f23) = true)
 (a24 : nsIn K mainGlobals "_law_is_field" = some (some (.ref f24))) (l24 : K.lookup f24 = some ⟨oc24, od24, .func (dF "_law_is_field" zaT kV24 dc24 pm24 an24 cd24 ct24), sl24⟩) (c24 : codeIn K cd24 "_law_is_field" = true) (k24 : keepIn K (.ref f24) = true)
 (a25 : nsIn K mainGlobals "_law_is_span" = some (some (.ref f25))) (l25 : K.lookup f25 = some ⟨oc25, od25, .func (dF "_law_is_span" zbd kV25 dc25 pm25 an25 cd25 ct25), sl25⟩) (c25 : codeIn K cd25 "_law_is_span" = true) (k25 : keepIn K (.ref f25) = true)
 (a26 : nsIn K mainGlobals "_law_is_made" = some (some (.ref f26))) (l26 : K.lookup f26 = some ⟨oc26, od26, .func (dF "_law_is_made" zbe kV26 dc26 pm26 an26 cd26 ct26), sl26⟩) (c26 : codeIn K cd26 "_law_is_made" = true) (k26 : keepIn K (.ref f26) = true)
 (a27 : nsIn K mainGlobals "_law_wish" = some (some (.ref f27))) (l27 : K.lookup f27 = some ⟨oc27, od27, .func (dF "_law_wish" zb7 kV27 dc27 pm27 an27 cd27 ct27), sl27⟩) (c27 : codeIn K cd27 "_law_wish" = true) (k27 : keepIn K (.ref f27) = true)
 (a28 : nsIn K mainGlobals "_law_like" = some (some (.ref f28))) (l28 : K.lookup f28 = some ⟨oc28, od28, .func (dF "_law_like" zca kV28 dc28 pm28 an28 cd28 ct28), sl28⟩) (c28 : codeIn K cd28 "_law_like" = true) (k28 : keepIn K (.ref f28) = true)
 (a29 : nsIn K mainGlobals "_law_ahead" = some (some (.ref f29))) (l29 : K.lookup f29 = some ⟨oc29, od29, .func (dF "_law_ahead" zbI kV29 dc29 pm29 an29 cd29 ct29), sl29⟩) (c29 : codeIn K cd29 "_law_ahead" = true) (k29 : keepIn K (.ref f29) = true)
 (a30 : nsIn K mainGlobals "_law_list" = some (some (.ref f30))) (l30 : K.lookup f30 = some ⟨oc30, od30, .func (dF "_law_list" zb9 kV30 dc30 pm30 an30 cd30 ct30), sl30⟩) (c30 : codeIn K cd30 "_law_list" = true) (k30 : keepIn K (.ref f30) = true)
 (a31 : nsIn K mainGlobals "_law_right" = some (some (.ref f31))) (l31 : K.lookup f31 = some ⟨oc31, od31, .func (dF "_law_right" zbG kV31 dc31 pm31 an31 cd31 ct31), sl31⟩) (c31 : codeIn K cd31 "_law_right" = true) (k31 : keepIn K (.ref f31) = true)
 (a32 : nsIn K mainGlobals "law" = some (some (.ref f32))) (l32 : K.lookup f32 = some ⟨oc32, od32, .func (dF "law" zfk kV32 dc32 pm32 an32 cd32 ct32), sl32⟩) (c32 : codeIn K cd32 "law" = true) (k32 : keepIn K (.ref f32) = true)
 {t_MOST_LETTERS : Tok} (e_MOST_LETTERS : nsIn K mainGlobals "MOST_LETTERS" = some (some (.int 8 t_MOST_LETTERS)))
 (z_len : nsIn K mainGlobals "len" = some none)
 (z_range : nsIn K mainGlobals "range" = some none)
 (z_isinstance : nsIn K mainGlobals "isinstance" = some none)
 (z_int : nsIn K mainGlobals "int" = some none)
 (z_bool : nsIn K mainGlobals "bool" = some none)
 (z_tuple : nsIn K mainGlobals "tuple" = some none)
 (z_list : nsIn K mainGlobals "list" = some none)
 (z_max : nsIn K mainGlobals "max" = some none)
 (z_min : nsIn K mainGlobals "min" = some none)
 (z_all : nsIn K mainGlobals "all" = some none)
 (z_zip : nsIn K mainGlobals "zip" = some none)
 (z_str : nsIn K mainGlobals "str" = some none)
 (z_dict : nsIn K mainGlobals "dict" = some none)
 (z_sorted : nsIn K mainGlobals "sorted" = some none)
 (z_set : nsIn K mainGlobals "set" = some none)
 (z_any : nsIn K mainGlobals "any" = some none)
 (z_sum : nsIn K mainGlobals "sum" = some none)
 (z_enumerate : nsIn K mainGlobals "enumerate" = some none)
 (z_repr : nsIn K mainGlobals "repr" = some none)
 (z_ord : nsIn K mainGlobals "ord" = some none)
 (z_chr : nsIn K mainGlobals "chr" = some none)
 (z_abs : nsIn K mainGlobals "abs" = some none)
 (z_reversed : nsIn K mainGlobals "reversed" = some none)
 : ∃ fd : FuncData, (∀ (s : Shared) (v : Value), BindsTo s fd ⟨[v], []⟩ [("script", v)]) ∧ ∀ base : Heap, K.In base → base.Ns mainGlobals mg → FnOk l.prog w K mg base CX0 13 fa fd ["script"] (zh3 K) := by
 have e := hfa.symm.trans (PySem.W.mg_of X G a32)
 cases e
 have B : Bl mg := ⟨mg_none_of X G z_len, mg_none_of X G z_range, mg_none_of X G z_isinstance, mg_none_of X G z_int, mg_none_of X G z_bool, mg_none_of X G z_tuple, mg_none_of X G z_list, mg_none_of X G z_max, mg_none_of X G z_min, mg_none_of X G z_all, mg_none_of X G z_zip, mg_none_of X G z_str, mg_none_of X G z_dict, mg_none_of X G z_sorted, mg_none_of X G z_set, mg_none_of X G z_any, mg_none_of X G z_sum, mg_none_of X G z_enumerate, mg_none_of X G z_repr, mg_none_of X G z_ord, mg_none_of X G z_chr, mg_none_of X G z_abs, mg_none_of X G z_reversed⟩
 refine ⟨PySem.W.fnOf "law" "law" (zb3 zfk) (zbQ zfk) (zah zfk) .none kV32 dc32 pm32 an32 cd32 ct32, fun s v => .of_eq rfl, fun base _ _ => ?_⟩
 have CMOST_LETTERS := mg_of X G e_MOST_LETTERS
 have F1 := zaG (st := zcd) l1 c1 k1
 have b1 := bn1 (p0 := "thing") F1
 have G_is_whole : FnH l.prog w K mg base 1 "is_whole" ["thing"] (zcJ K) := ⟨_, _, zfw B CMOST_LETTERS F1 , b1, k1, mg_of X G a1⟩
 have F2 := zaG (st := zc5) l2 c2 k2
 have b2 := bn1 (p0 := "thing") F2
 have G_is_end : FnH l.prog w K mg base 2 "is_end" ["thing"] (zi1 K) := ⟨_, _, zhh B CMOST_LETTERS F2 G_is_whole, b2, k2, mg_of X G a2⟩
 have F3 := zaG (st := zcu) l3 c3 k3
 have b3 := bn1 (p0 := "thing") F3
 have G_is_span : FnH l.prog w K mg base 3 "is_span" ["thing"] (zdT K) := ⟨_, _, zgx B CMOST_LETTERS F3 G_is_end, b3, k3, mg_of X G a3⟩
 have F4 := zaG (st := zbz) l4 c4 k4
 have b4 := bn1 (p0 := "thing") F4
 have G_is_field : FnH l.prog w K mg base 1 "is_field" ["thing"] (ze8) := ⟨_, _, zfx B CMOST_LETTERS F4 , b4, k4, mg_of X G a4⟩
 have F5 := zaG (st := za6) l5 c5 k5
 have b5 := bn1 (p0 := "thing") F5
 have G_is_wish_part : FnH l.prog w K mg base 4 "is_wish_part" ["thing"] (zcI) := ⟨_, _, zdo B CMOST_LETTERS F5 G_is_field G_is_span, b5, k5, mg_of X G a5⟩
 have F6 := zaG (st := zaP) l6 c6 k6
 have b6 := bn1 (p0 := "parts") F6
 have G_fields_ascend : FnH l.prog w K mg base 1 "fields_ascend" ["parts"] (zdV) := ⟨_, _, zc2 B CMOST_LETTERS F6 , b6, k6, mg_of X G a6⟩
 have F7 := zaG (st := zbW) l7 c7 k7
 have b7 := bn1 (p0 := "thing") F7
 have G_is_wish : FnH l.prog w K mg base 5 "is_wish" ["thing"] (zdS) := ⟨_, _, zgw B CMOST_LETTERS F7 G_fields_ascend G_is_wish_part, b7, k7, mg_of X G a7⟩
 have F8 := zaG (st := za9) l8 c8 k8
 have b8 := bn1 (p0 := "thing") F8
 have G_are_wishes : FnH l.prog w K mg base 6 "are_wishes" ["thing"] (ze9) := ⟨_, _, zd8 B CMOST_LETTERS F8 G_is_wish, b8, k8, mg_of X G a8⟩
 have F9 := zaG (st := za7) l9 c9 k9
 have b9 := bn1 (p0 := "thing") F9
 have G_check_wishes : FnH l.prog w K mg base 7 "check_wishes" ["thing"] (zdU) := ⟨_, _, zdp B CMOST_LETTERS F9 G_are_wishes, b9, k9, mg_of X G a9⟩
 have F10 := zaG (st := zbc) l10 c10 k10
 have b10 := bn1 (p0 := "low") F10
 have G_rank_of_low : FnH l.prog w K mg base 1 "rank_of_low" ["low"] (zgQ) := ⟨_, _, zdz B CMOST_LETTERS F10 , b10, k10, mg_of X G a10⟩
 have F11 := zaG (st := za5) l11 c11 k11
 have b11 := bn1 (p0 := "high") F11
 have G_rank_of_high : FnH l.prog w K mg base 1 "rank_of_high" ["high"] (ze3) := ⟨_, _, zdm B CMOST_LETTERS F11 , b11, k11, mg_of X G a11⟩
 have F12 := zaG (st := zeu) l12 c12 k12
 have b12 := bn1 (p0 := "wish") F12
 have G_rank : FnH l.prog w K mg base 2 "rank" ["wish"] (zgP K) := ⟨_, _, zjc B CMOST_LETTERS F12 G_rank_of_low G_rank_of_high, b12, k12, mg_of X G a12⟩
 have F13 := zaG (st := zce) l13 c13 k13
 have b13 := bn1 (p0 := "wishes") F13
 have G_in_order : FnH l.prog w K mg base 11 "in_order" ["wishes"] (zcL) := ⟨_, _, zfy B CMOST_LETTERS F13 G_check_wishes G_rank, b13, k13, mg_of X G a13⟩
 have F14 := zaG (st := zby) l14 c14 k14
 have b14 := bn1 (p0 := "script") F14
 have G_law_bag : FnH l.prog w K mg base 1 "_law_bag" ["script"] (zi2 K) := ⟨_, _, zgv B CMOST_LETTERS F14 , b14, k14, mg_of X G a14⟩
 have F15 := zaG (st := zcc) l15 c15 k15
 have b15 := bn2 (p0 := "bag") (p1 := "many") F15
 have G_law_draw : FnH l.prog w K mg base 1 "_law_draw" ["bag", "many"] (zgS) := ⟨_, _, zfv B CMOST_LETTERS F15 , b15, k15, mg_of X G a15⟩
 have F16 := zaG (st := zbn) l16 c16 k16
 have b16 := bn1 (p0 := "bag") F16
 have G_law_number : FnH l.prog w K mg base 2 "_law_number" ["bag"] (zdR) := ⟨_, _, zd6 B CMOST_LETTERS F16 G_law_draw, b16, k16, mg_of X G a16⟩
 have F17 := zaG (st := zcb) l17 c17 k17
 have b17 := bn1 (p0 := "number") F17
 have G_law_held : FnH l.prog w K mg base 1 "_law_held" ["number"] (zgR) := ⟨_, _, zfu B CMOST_LETTERS F17 , b17, k17, mg_of X G a17⟩
 have F18 := zaG (st := zb8) l18 c18 k18
 have b18 := bn1 (p0 := "bag") F18
 have G_law_span : FnH l.prog w K mg base 3 "_law_span" ["bag"] (zgO) := ⟨_, _, zfq B CMOST_LETTERS F18 G_law_draw G_law_number G_law_held, b18, k18, mg_of X G a18⟩
 have F19 := zaG (st := zbF) l19 c19 k19
 have b19 := bn1 (p0 := "found") F19
 have G_law_whole : FnH l.prog w K mg base 1 "_law_whole" ["found"] (zcJ K) := ⟨_, _, zeF B CMOST_LETTERS F19 , b19, k19, mg_of X G a19⟩
 have F20 := zaG (st := zbx) l20 c20 k20
 have b20 := bn2 (p0 := "found") (p1 := "due") F20
 have G_law_same : FnH l.prog w K mg base 11 "_law_same" ["found", "due"] (zfS 9 zdP) := ⟨_, _, zfr B CMOST_LETTERS F20  (PySem.W.mg_of X G a20), b20, k20, mg_of X G a20⟩
 have F21 := zaG (st := za1) l21 c21 k21
 have b21 := bn1 (p0 := "bag") F21
 have G_law_field : FnH l.prog w K mg base 2 "_law_field" ["bag"] (zcK) := ⟨_, _, zeI B CMOST_LETTERS F21 G_law_draw, b21, k21, mg_of X G a21⟩
 have F22 := zaG (st := za8) l22 c22 k22
 have b22 := bn2 (p0 := "bag") (p1 := "most") F22
 have G_law_fields : FnH l.prog w K mg base 3 "_law_fields" ["bag", "most"] (zcn) := ⟨_, _, zd7 B CMOST_LETTERS F22 G_law_field G_law_draw, b22, k22, mg_of X G a22⟩
 have F23 := zaG (st := zbH) l23 c23 k23
 have b23 := bn2 (p0 := "bag") (p1 := "span") F23
 have G_law_moved : FnH l.prog w K mg base 3 "_law_moved" ["bag", "span"] (ze4) := ⟨_, _, zeH B CMOST_LETTERS F23 G_law_draw G_law_number G_law_held, b23, k23, mg_of X G a23⟩
 have F24 := zaG (st := zaT) l24 c24 k24
 have b24 := bn1 (p0 := "thing") F24
 have G_law_is_field : FnH l.prog w K mg base 1 "_law_is_field" ["thing"] (zbV) := ⟨_, _, zdn B CMOST_LETTERS F24 , b24, k24, mg_of X G a24⟩
 have F25 := zaG (st := zbd) l25 c25 k25
 have b25 := bn2 (p0 := "low") (p1 := "high") F25
 have G_law_is_span : FnH l.prog w K mg base 2 "_law_is_span" ["low", "high"] (zcm) := ⟨_, _, zdA B CMOST_LETTERS F25 G_law_whole, b25, k25, mg_of X G a25⟩
 have F26 := zaG (st := zbe) l26 c26 k26
 have b26 := bn2 (p0 := "thing") (p1 := "size") F26
 have G_law_is_made : FnH l.prog w K mg base 3 "_law_is_made" ["thing", "size"] (ze5) := ⟨_, _, zdB B CMOST_LETTERS F26 G_law_is_field G_law_is_span G_law_whole, b26, k26, mg_of X G a26⟩
 have F27 := zaG (st := zb7) l27 c27 k27
 have b27 := bn2 (p0 := "bag") (p1 := "fields") F27
 have G_law_wish : FnH l.prog w K mg base 4 "_law_wish" ["bag", "fields"] (zc9) := ⟨_, _, zfp B CMOST_LETTERS F27 G_law_span G_law_draw, b27, k27, mg_of X G a27⟩
 have F28 := zaG (st := zca) l28 c28 k28
 have b28 := bn2 (p0 := "bag") (p1 := "wish") F28
 have G_law_like : FnH l.prog w K mg base 4 "_law_like" ["bag", "wish"] (ze7) := ⟨_, _, zft B CMOST_LETTERS F28 G_law_draw G_law_moved, b28, k28, mg_of X G a28⟩
 have F29 := zaG (st := zbI) l29 c29 k29
 have b29 := bn2 (p0 := "one") (p1 := "other") F29
 have G_law_ahead : FnH l.prog w K mg base 1 "_law_ahead" ["one", "other"] (zfa) := ⟨_, _, zeJ B CMOST_LETTERS F29 , b29, k29, mg_of X G a29⟩
 have F30 := zaG (st := zb9) l30 c30 k30
 have b30 := bn1 (p0 := "bag") F30
 have G_law_list : FnH l.prog w K mg base 5 "_law_list" ["bag"] (ze6) := ⟨_, _, zfs B CMOST_LETTERS F30 G_law_fields G_law_draw G_law_like G_law_wish, b30, k30, mg_of X G a30⟩
 have F31 := zaG (st := zbG) l31 c31 k31
 have b31 := bn1 (p0 := "wishes") F31
 have G_law_right : FnH l.prog w K mg base 12 "_law_right" ["wishes"] (zdQ) := ⟨_, _, zeG B CMOST_LETTERS F31 G_in_order G_law_same G_law_ahead G_law_is_made, b31, k31, mg_of X G a31⟩
 have F32 := zaG (st := zfk) l32 c32 k32
 exact zjO B CMOST_LETTERS F32 G_law_bag G_law_list G_law_right
theorem walk {l : PySem.W.OpenLaw} {q : Program} {loose : List Str} {XP : (Str → Option Value) → Heap → Prop} {YP : World → Heap → Prop} {d : DefRec} {K : Params → PySem.W.Frag} (hn : l.most = some 63) (hdf : d.params.defaults = [])
 (hY : ∀ (w : World) (h : Heap), YP w h → (K w.params).In h)
 (F : ∀ (w : World) (mg : Str → Option Value) (fa : Addr) (h : Heap), (K w.params).In h → h.Ns mainGlobals mg → mg d.name = some (.ref fa) →
  ∃ fd : FuncData, (∀ (s : Shared) (u : Value), BindsTo s fd ⟨[u], []⟩ [("script", u)]) ∧ ∀ base : Heap, (K w.params).In base → base.Ns mainGlobals mg → FnOk l.prog w (K w.params) mg base CX0 13 fa fd ["script"] (zh3 (K w.params))) :
 PySem.W.WalkO q loose XP YP l.row.toRowW d [] (fun f vs => PySem.call f vs) :=
 L2.walk_of (n := 63) (k := 13) (x := "script") (CX := fun _ => CX0) (sp := fun w => zh3 (K w.params)) hn (by decide) hdf ⟨rfl, by decide, by decide, rfl⟩ hY F (fun _ _ a ns hl _ hS => ⟨a, ns, rfl, hS, hl, fun _ => rfl⟩) fun _ _ _ _ _ z => z
end K08
namespace PySem.W.Fast
def tw666585480472713440 := 0
def tw13831920280461847840 := 0
def tw128289164365945120 := 0
def tw10019371013893446944 := 0
def tw2789918768108040992 := 0
def tw10888259503932925760 := 0
def tw15169421926353096576 := 0
def tw10838558216181136288 := 0
def tw13530209825834244193 := 0
def tw11879369211733559009 := 0
def tw12375344603347609505 := 0
def tw17754859488977735810 := 0
def tw4410678259769095426 := 0
def tw18436813795854546178 := 0
def tw13156384351030459746 := 0
def tw10039248932223718914 := 0
def tw8958029319219863394 := 0
def tw10943699424411414691 := 0
def tw14320041739059343843 := 0
def tw12352578114815183363 := 0
def tw1044965915226859011 := 0
def tw11623585792826785347 := 0
def tw10367503188148322019 := 0
def tw18051043347820870467 := 0
def tw7802355193970067460 := 0
def tw14994872407424149700 := 0
def tw15848168429755978020 := 0
def tw14537356791390720356 := 0
def tw1113193433358175620 := 0
def tw7254005866563229316 := 0
def tw3177190848316428996 := 0
def tw16770260807699393284 := 0
def tw843231853108658084 := 0
def tw6163440521583242245 := 0
def tw15022064593835901061 := 0
def tw17006086078264075461 := 0
def tw3130114126792948933 := 0
def tw7727677539150280933 := 0
def tw7501005249612791109 := 0
def tw11040613475583530341 := 0
def tw9789920670364248421 := 0
def tw1334815745261721029 := 0
def tw2467741270624680741 := 0
def tw14135175274702357381 := 0
def tw16964717832579949445 := 0
def tw10096743873279502309 := 0
def tw1796353506874548197 := 0
def tw14241545868695232614 := 0
def tw130339383509746950 := 0
def tw13225047437412727238 := 0
def tw7695334927343968806 := 0
def tw7170866388805089383 := 0
def tw7929028830145034535 := 0
def tw11502928061554240999 := 0
def tw14461486867932528263 := 0
def tw409025994412419719 := 0
def tw1394885308917727943 := 0
def tw10453372320573510567 := 0
def tw9761885554809775015 := 0
def tw3215873558601277480 := 0
def tw4651091919104812392 := 0
def tw5182438235836154568 := 0
def tw17538253254957157224 := 0
def tw9034101783753861064 := 0
def tw4129552249571237929 := 0
def tw12138931446302459017 := 0
def tw10465319278307652073 := 0
def tw8776680348443892201 := 0
def tw11483607828970401513 := 0
def tw97162686420446442 := 0
def tw466889997625842986 := 0
def tw13418142342441552266 := 0
def tw4098988871052841578 := 0
def tw18146983541210832714 := 0
def tw13226752912310070186 := 0
def tw8757581778157737930 := 0
def tw7115280257815201867 := 0
def tw7123987774876766539 := 0
def tw872644753111043691 := 0
def tw8869941777550681035 := 0
def tw12164871503075733708 := 0
def tw11352183531960451308 := 0
def tw18279905125945977100 := 0
def tw1806642727208414572 := 0
def tw2547637554004256204 := 0
def tw5898796397091631628 := 0
def tw14601414993674718796 := 0
def tw15777014138246811244 := 0
def tw15411844215142478508 := 0
def tw3698992382216527628 := 0
def tw16670795648859907661 := 0
def tw10065408555220386573 := 0
def tw13182875778438246189 := 0
def tw10368524825738067821 := 0
def tw12283629292885125101 := 0
def tw3798695969013905454 := 0
def tw12564580234377122958 := 0
def tw17357963995950966990 := 0
def tw3947938810734348526 := 0
def tw10985559016834241806 := 0
def tw3501957736538330606 := 0
def tw14991583656875298382 := 0
def tw18401474533529288334 := 0
def tw5658310611931562926 := 0
def tw12654160597391348111 := 0
def tw13291778914924229135 := 0
def tw12373811521256507119 := 0
def tw16782563575370143952 := 0
def tw9543680696158625296 := 0
def tw18344992389603590768 := 0
def tw11047242539351332592 := 0
def tw17034811339604908880 := 0
def tw7869951999509570480 := 0
def tw16213826335499979760 := 0
def tw13304068368822340689 := 0
def tw3723728101319226449 := 0
def tw16441956328624972945 := 0
def tw7108006290379498705 := 0
def tw538489677205148722 := 0
def tw4755211246920021330 := 0
def tw2841398492125077874 := 0
def tw13205593875778174514 := 0
def tw784430438660072306 := 0
def tw14055514862599567346 := 0
def tw6391295223821938771 := 0
def tw14018555488781325459 := 0
def tw14802073768280094963 := 0
def tw10932877599896558931 := 0
def tw8056641121299869075 := 0
def tw10595303831088832979 := 0
def tw8168042311278866931 := 0
def tw6683498350515355219 := 0
def tw14743407222226843411 := 0
def tw1090997651210528627 := 0
def tw124583696584401875 := 0
def tw12734309700068640916 := 0
def tw16221990572989760980 := 0
def tw16334334158905044692 := 0
def tw13523491122613349108 := 0
def tw6948410862598560724 := 0
def tw5570298571243042837 := 0
def tw11616892399636621557 := 0
def tw6684816078004567445 := 0
def tw5166952031358773237 := 0
def tw5966230539904207990 := 0
def tw1939687313571468726 := 0
def tw15796919454339409334 := 0
def tw14131904282963497462 := 0
def tw348898451435142710 := 0
def tw16932649884846818934 := 0
def tw13867331735489503958 := 0
def tw6360246243397123159 := 0
def tw9395893053957477783 := 0
def tw18037190526063265335 := 0
def tw9597226031428927159 := 0
def tw13278501287746658199 := 0
def tw12809803556610113463 := 0
def tw8482292663050514584 := 0
def tw9444005790151677144 := 0
def tw9299627230310025464 := 0
def tw12760665968334228760 := 0
def tw4086446595928587832 := 0
def tw8936932955507791512 := 0
def tw13584163898421540504 := 0
def tw766841570268010168 := 0
def tw14448807705844464793 := 0
def tw56973125563840729 := 0
def tw10100105093670820217 := 0
def tw5899121368101578105 := 0
def tw17496592930372572569 := 0
def tw12626209404515735993 := 0
def tw12259096635857923641 := 0
def tw15126611437044107929 := 0
def tw9843369618255318745 := 0
def tw12730054155886415865 := 0
def tw7178780836540380474 := 0
def tw7783496662875890074 := 0
def tw1370482769066556986 := 0
def tw11899707629840943770 := 0
def tw13542786988036293306 := 0
def tw5361013230669000123 := 0
def tw7867899373944172091 := 0
def tw6320099128281378523 := 0
def tw10587271351415511899 := 0
def tw14757879199280211899 := 0
def tw7445993203580336059 := 0
def tw7335012442492886044 := 0
def tw15600227028231100444 := 0
def tw955714810429415676 := 0
def tw2844564919261441564 := 0
def tw3689492146017621628 := 0
def tw14846360646467680060 := 0
def tw5951198135116419900 := 0
def tw1046886945954102172 := 0
def tw9647452033239833532 := 0
def tw5739270620439911741 := 0
def tw6709685632316569981 := 0
def tw4128449727276823965 := 0
def tw15335558057526403581 := 0
def tw7030255497647545917 := 0
def tw4640547502607847197 := 0
def tw3572892669239876062 := 0
def tw246154308326076126 := 0
def tw16000238646407030526 := 0
def tw30075019749521791 := 0
def tw9359468254630340991 := 0
def tw7214784133954527775 := 0
def tw12079599991918367455 := 0
def tw17631540942033324831 := 0
def tw12627817072988896191 := 0
end PySem.W.Fast
open PySem PySem.W PyProof.Rows
set_option maxRecDepth 100000 in
set_option maxHeartbeats 0 in
theorem PySem.Challenge.cw_newsways_k08_wishes_in_order_holds : PySem.Challenge.rw_newsways_k08_wishes_in_order.Holds := by
 w_on; o_law; k_head; (case hw => w_witness2)
 k_fill
 refine K08.walk (l := PySem.Challenge.rw_newsways_k08_wishes_in_order) rfl rfl (fun w h Y => PySem.W.kIn_of Y) ?F
 case F =>
  intro w mg fa h KX G hmg
  refine' K08.all_mk KX G hmg ?a1 ?l1 ?c1 ?k1 ?a2 ?l2 ?c2 ?k2 ?a3 ?l3 ?c3 ?k3 ?a4 ?l4 ?c4 ?k4 ?a5 ?l5 ?c5 ?k5 ?a6 ?l6 ?c6 ?k6 ?a7 ?l7 ?c7 ?k7 ?a8 ?l8 ?c8 ?k8 ?a9 ?l9 ?c9 ?k9 ?a10 ?l10 ?c10 ?k10 ?a11 ?l11 ?c11 ?k11 ?a12 ?l12 ?c12 ?k12 ?a13 ?l13 ?c13 ?k13 ?a14 ?l14 ?c14 ?k14 ?a15 ?l15 ?c15 ?k15 ?a16 ?l16 ?c16 ?k16 ?a17 ?l17 ?c17 ?k17 ?a18 ?l18 ?c18 ?k18 ?a19 ?l19 ?c19 ?k19 ?a20 ?l20 ?c20 ?k20 ?a21 ?l21 ?c21 ?k21 ?a22 ?l22 ?c22 ?k22 ?a23 ?l23 ?c23 ?k23 ?a24 ?l24 ?c24 ?k24 ?a25 ?l25 ?c25 ?k25 ?a26 ?l26 ?c26 ?k26 ?a27 ?l27 ?c27 ?k27 ?a28 ?l28 ?c28 ?k28 ?a29 ?l29 ?c29 ?k29 ?a30 ?l30 ?c30 ?k30 ?a31 ?l31 ?c31 ?k31 ?a32 ?l32 ?c32 ?k32 ?e_MOST_LETTERS  ?z_len ?z_range ?z_isinstance ?z_int ?z_bool ?z_tuple ?z_list ?z_max ?z_min ?z_all ?z_zip ?z_str ?z_dict ?z_sorted ?z_set ?z_any ?z_sum ?z_enumerate ?z_repr ?z_ord ?z_chr ?z_abs ?z_reversed
  (case a1 => k_is); (case l1 => k_is); (case c1 => k_is); (case k1 => k_is)
  (case a2 => k_is); (case l2 => k_is); (case c2 => k_is); (case k2 => k_is)
  (case a3 => k_is); (case l3 => k_is); (case c3 => k_is); (case k3 => k_is)
  (case a4 => k_is); (case l4 => k_is); (case c4 => k_is); (case k4 => k_is)
  (case a5 => k_is); (case l5 => k_is); (case c5 => k_is); (case k5 => k_is)
  (case a6 => k_is); (case l6 => k_is); (case c6 => k_is); (case k6 => k_is)
  (case a7 => k_is); (case l7 => k_is); (case c7 => k_is); (case k7 => k_is)
  (case a8 => k_is); (case l8 => k_is); (case c8 => k_is); (case k8 => k_is)
  (case a9 => k_is); (case l9 => k_is); (case c9 => k_is); (case k9 => k_is)
  (case a10 => k_is); (case l10 => k_is); (case c10 => k_is); (case k10 => k_is)
  (case a11 => k_is); (case l11 => k_is); (case c11 => k_is); (case k11 => k_is)
  (case a12 => k_is); (case l12 => k_is); (case c12 => k_is); (case k12 => k_is)
  (case a13 => k_is); (case l13 => k_is); (case c13 => k_is); (case k13 => k_is)
  (case a14 => k_is); (case l14 => k_is); (case c14 => k_is); (case k14 => k_is)
  (case a15 => k_is); (case l15 => k_is); (case c15 => k_is); (case k15 => k_is)
  (case a16 => k_is); (case l16 => k_is); (case c16 => k_is); (case k16 => k_is)
  (case a17 => k_is); (case l17 => k_is); (case c17 => k_is); (case k17 => k_is)
  (case a18 => k_is); (case l18 => k_is); (case c18 => k_is); (case k18 => k_is)
  (case a19 => k_is); (case l19 => k_is); (case c19 => k_is); (case k19 => k_is)
  (case a20 => k_is); (case l20 => k_is); (case c20 => k_is); (case k20 => k_is)
  (case a21 => k_is); (case l21 => k_is); (case c21 => k_is); (case k21 => k_is)
  (case a22 => k_is); (case l22 => k_is); (case c22 => k_is); (case k22 => k_is)
  (case a23 => k_is); (case l23 => k_is); (case c23 => k_is); (case k23 => k_is)
  (case a24 => k_is); (case l24 => k_is); (case c24 => k_is); (case k24 => k_is)
  (case a25 => k_is); (case l25 => k_is); (case c25 => k_is); (case k25 => k_is)
  (case a26 => k_is); (case l26 => k_is); (case c26 => k_is); (case k26 => k_is)
  (case a27 => k_is); (case l27 => k_is); (case c27 => k_is); (case k27 => k_is)
  (case a28 => k_is); (case l28 => k_is); (case c28 => k_is); (case k28 => k_is)
  (case a29 => k_is); (case l29 => k_is); (case c29 => k_is); (case k29 => k_is)
  (case a30 => k_is); (case l30 => k_is); (case c30 => k_is); (case k30 => k_is)
  (case a31 => k_is); (case l31 => k_is); (case c31 => k_is); (case k31 => k_is)
  (case a32 => k_is); (case l32 => k_is); (case c32 => k_is); (case k32 => k_is)
  (case e_MOST_LETTERS => k_is)
  (case z_len => k_is); (case z_range => k_is); (case z_isinstance => k_is); (case z_int => k_is); (case z_bool => k_is); (case z_tuple => k_is); (case z_list => k_is); (case z_max => k_is); (case z_min => k_is); (case z_all => k_is); (case z_zip => k_is); (case z_str => k_is); (case z_dict => k_is); (case z_sorted => k_is); (case z_set => k_is); (case z_any => k_is); (case z_sum => k_is); (case z_enumerate => k_is); (case z_repr => k_is); (case z_ord => k_is); (case z_chr => k_is); (case z_abs => k_is); (case z_reversed => k_is)
